import unittest

from cornertold.plans import table_at
from cornertold.sheets import is_cloth, is_sheet, letter
from cornertold.tables import through
from cornertold.wires import legs, wires
from tests.samples import ODD_THINGS, SIZES, all_sheets, changed, some_cloth, some_plan, some_sheet, spoiled


class IsSheet(unittest.TestCase):
    def test_sheets_of_all_sizes(self):
        for q in (2, 3, 7):
            for a, b in SIZES + ((40, 40), (40, 0), (0, 40)):
                self.assertIs(is_sheet(q, a, b, some_sheet(q, a, b)), True)

    def test_sheets_of_other_sizes(self):
        for one in SIZES:
            for other in SIZES:
                self.assertIs(is_sheet(2, *one, some_sheet(2, *other)), one == other)

    def test_without_threads(self):
        self.assertIs(is_sheet(2, 0, 0, ((), ())), True)
        self.assertIs(is_sheet(2, 0, 2, (((0,), (1,)), ())), True)
        self.assertIs(is_sheet(2, 2, 0, ((), ((0,), (1,)))), True)
        self.assertIs(is_sheet(2, 0, 2, ((), ((0,), (1,)))), False)
        self.assertIs(is_sheet(2, 0, 0, ((), (), ())), False)
        self.assertIs(is_sheet(2, 0, 0, ((),)), False)
        self.assertIs(is_sheet(2, 0, 0, ((), ((),))), False)

    def test_letters_beyond(self):
        for q in range(2, 8):
            self.assertIs(is_sheet(q, 0, 1, (((q - 1,),), ())), True)
            for wrong in (q, -1, 10 ** 30):
                self.assertIs(is_sheet(q, 0, 1, (((wrong,),), ())), False)
                self.assertIs(is_sheet(q, 1, 0, ((), ((wrong,),))), False)

    def test_anything(self):
        for thing in ODD_THINGS:
            for a, b in SIZES[1:]:
                self.assertIs(is_sheet(2, a, b, thing), False)

    def test_spoiled_sheets(self):
        for a, b in ((0, 1), (1, 0), (1, 1), (2, 1), (2, 3)):
            for wrong in spoiled(some_sheet(2, a, b)):
                self.assertIs(is_sheet(2, a, b, wrong), False)


class IsCloth(unittest.TestCase):
    def test_by_the_words_over_all_sheets(self):
        for a, b in ((0, 0), (0, 2), (2, 0), (1, 1), (2, 1), (1, 2), (2, 2)):
            plan = some_plan(2, a, b, seed=a + 7 * b)
            for sheet in all_sheets(2, a, b):
                quads = {(i, j): tuple(letter(sheet, leg) for leg in legs(i, j)) for i in range(a) for j in range(b)}
                so = all(quad in table_at(plan, i, j) for (i, j), quad in quads.items())
                self.assertIs(is_cloth(plan, sheet), so)

    def test_a_changed_letter_breaks_a_cloth_where_its_thread_is_crossed(self):
        for q in (2, 3, 4):
            for a, b in SIZES:
                plan = some_plan(q, a, b)
                cloth = some_cloth(plan)
                self.assertIs(is_cloth(plan, cloth), True)
                for wire in wires(a, b):
                    crossed = a if wire[0] == "row" else b
                    other = changed(cloth, wire, (letter(cloth, wire) + 1) % q)
                    self.assertIs(is_cloth(plan, other), crossed == 0)

    def test_anything(self):
        plan = some_plan(3, 2, 2)
        for thing in ODD_THINGS:
            self.assertIs(is_cloth(plan, thing), False)

    def test_spoiled_cloths(self):
        plan = (2, (through(2),), 2, ((0, 0),))
        cloth = (((1, 1, 1),), ((0, 0), (1, 1)))
        self.assertIs(is_cloth(plan, cloth), True)
        for wrong in spoiled(cloth):
            self.assertIs(is_cloth(plan, wrong), False)

    def test_a_cloth_of_another_size_or_of_more_letters(self):
        cloth = some_cloth(some_plan(3, 2, 1))
        self.assertIs(is_cloth(some_plan(3, 1, 2), cloth), False)
        self.assertIs(is_cloth((2, (through(2),), 1, ((0,),)), (((2, 2),), ((2, 2),))), False)
        self.assertIs(is_cloth((3, (through(3),), 1, ((0,),)), (((2, 2),), ((2, 2),))), True)


class Letter(unittest.TestCase):
    def test_rows_and_columns(self):
        sheet = (((0, 1, 2), (3, 4, 5)), ((6, 0, 1), (2, 3, 4)))
        self.assertEqual([letter(sheet, ("row", 0, x)) for x in range(3)], [0, 1, 2])
        self.assertEqual([letter(sheet, ("row", 1, x)) for x in range(3)], [3, 4, 5])
        self.assertEqual([letter(sheet, ("column", 0, y)) for y in range(3)], [6, 0, 1])
        self.assertEqual([letter(sheet, ("column", 1, y)) for y in range(3)], [2, 3, 4])

    def test_without_threads_across(self):
        self.assertEqual(letter((((3,), (5,)), ()), ("row", 1, 0)), 5)
        self.assertEqual(letter(((), ((3,), (5,))), ("column", 0, 0)), 3)


if __name__ == "__main__":
    unittest.main()
