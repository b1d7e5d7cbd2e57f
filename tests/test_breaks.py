"""Promise 20: broken crossings, letters put anew, and all single changes that mend."""

import unittest

from cornertold.breaks import broken, mends, put
from cornertold.plans import size, table_at
from cornertold.sheets import is_cloth, letter
from cornertold.tables import lifted, pushed, through
from cornertold.weaving import woven
from cornertold.wires import legs, wires
from tests.samples import (
    FORTY_SIZES, SIZES, all_cloths, all_sheets, changed, some_cloth, some_plan, some_sheet)

STRAIGHT = (2, (through(2),), 2, ((0, 0), (0, 0)))
ALL_NOUGHT = (((0, 0, 0), (0, 0, 0)), ((0, 0, 0), (0, 0, 0)))


def broken_by_the_words(plan, sheet):
    a, b = size(plan)
    return tuple([(i, j) for i in range(a) for j in range(b)
                  if tuple([letter(sheet, wire) for wire in legs(i, j)]) not in table_at(plan, i, j)])


def mends_by_the_words(plan, sheet):
    """All single changes that mend, by trying each one."""
    return tuple([(wire, sign) for wire in wires(*size(plan)) for sign in range(plan[0])
                  if sign != letter(sheet, wire) and is_cloth(plan, changed(sheet, wire, sign))])


def touching(a, b, wire):
    return tuple([(i, j) for i in range(a) for j in range(b) if wire in legs(i, j)])


class Broken(unittest.TestCase):
    def test_a_cloth_has_none(self):
        for q in range(2, 8):
            for a, b in SIZES:
                plan = some_plan(q, a, b, seed=a + q)
                self.assertEqual(broken(plan, some_cloth(plan)), ())

    def test_the_words(self):
        self.assertEqual(broken(STRAIGHT, ALL_NOUGHT), ())
        self.assertEqual(broken(STRAIGHT, changed(ALL_NOUGHT, ("row", 1, 1), 1)), ((0, 1), (1, 1)))
        self.assertEqual(broken(STRAIGHT, changed(ALL_NOUGHT, ("column", 1, 2), 1)), ((1, 1),))
        one_each = (((0, 1, 0), (1, 0, 1)), ((0, 1, 0), (1, 0, 1)))
        self.assertEqual(broken(STRAIGHT, one_each), ((0, 0), (0, 1), (1, 0), (1, 1)))

    def test_by_the_table_of_each_crossing(self):
        tables = (through(2), pushed(2, ((0, 1), (1, 0))), lifted(2, ((0, 1), (1, 0))))
        sheet = woven((2, tables, 3, ((0, 1, 2),)), 0, ((1,), (1, 1, 1)))
        self.assertEqual(sheet, (((1, 1, 0, 0),), ((1, 1), (1, 1), (1, 1))))
        self.assertEqual(broken((2, tables, 3, ((0, 0, 2),)), sheet), ((1, 0),))
        self.assertEqual(broken((2, tables, 3, ((2, 1, 2),)), sheet), ((0, 0),))
        self.assertEqual(broken((2, tables, 3, ((1, 2, 1),)), sheet), ((0, 0), (1, 0), (2, 0)))

    def test_of_all_sheets_of_small_sizes(self):
        for q, a, b in ((2, 1, 1), (2, 2, 1), (2, 1, 2), (3, 1, 1), (2, 0, 2), (2, 2, 0), (2, 0, 0)):
            plan = some_plan(q, a, b, seed=7)
            for sheet in all_sheets(q, a, b):
                self.assertEqual(broken(plan, sheet), broken_by_the_words(plan, sheet))
                self.assertIs(broken(plan, sheet) == (), is_cloth(plan, sheet))

    def test_of_some_sheets_also_of_forty(self):
        for a, b in SIZES + FORTY_SIZES:
            plan, sheet = some_plan(3, a, b, seed=a), some_sheet(3, a, b, seed=b)
            found = broken(plan, sheet)
            self.assertEqual(found, broken_by_the_words(plan, sheet))
            self.assertEqual(found, tuple(sorted(found)))
        self.assertGreater(len(broken(some_plan(3, 40, 40), some_sheet(3, 40, 40))), 1000)


class Put(unittest.TestCase):
    def test_the_words(self):
        sheet = (((0, 1, 2), (3, 4, 5)), ((6, 0, 1), (2, 3, 4)))
        self.assertEqual(put(sheet, ("row", 0, 0), 6), (((6, 1, 2), (3, 4, 5)), ((6, 0, 1), (2, 3, 4))))
        self.assertEqual(put(sheet, ("row", 1, 2), 6), (((0, 1, 2), (3, 4, 6)), ((6, 0, 1), (2, 3, 4))))
        self.assertEqual(put(sheet, ("column", 0, 1), 6), (((0, 1, 2), (3, 4, 5)), ((6, 6, 1), (2, 3, 4))))
        self.assertEqual(put(sheet, ("column", 1, 2), 4), sheet)

    def test_without_threads_across(self):
        self.assertEqual(put((((0,), (1,)), ()), ("row", 1, 0), 0), (((0,), (0,)), ()))
        self.assertEqual(put(((), ((0,), (1,))), ("column", 0, 0), 1), ((), ((1,), (1,))))

    def test_that_letter_there_and_all_others_as_they_were(self):
        for a, b in SIZES:
            sheet = some_sheet(7, a, b)
            for wire in wires(a, b):
                for sign in range(0, 7, 3):
                    other = put(sheet, wire, sign)
                    self.assertEqual(letter(other, wire), sign)
                    self.assertEqual(other, changed(sheet, wire, sign))

    def test_of_forty(self):
        sheet = some_sheet(7, 40, 40)
        for wire in (("row", 0, 0), ("row", 39, 40), ("column", 39, 40), ("column", 0, 7)):
            self.assertEqual(put(sheet, wire, 3), changed(sheet, wire, 3))


class Mends(unittest.TestCase):
    def test_each_single_change_of_a_cloth(self):
        for q, a, b in ((2, 1, 1), (2, 2, 1), (2, 2, 2), (3, 1, 2), (3, 2, 2), (2, 3, 2), (4, 1, 1)):
            for seed in range(3):
                plan = some_plan(q, a, b, seed=seed)
                cloth = some_cloth(plan, seed=seed)
                for wire in wires(a, b):
                    for sign in range(q):
                        if sign != letter(cloth, wire):
                            sheet = changed(cloth, wire, sign)
                            found = mends(plan, sheet)
                            self.assertEqual(found, mends_by_the_words(plan, sheet))
                            self.assertIn((wire, letter(cloth, wire)), found)

    def test_of_all_sheets_of_small_sizes(self):
        for q, a, b in ((2, 1, 1), (3, 1, 1), (2, 2, 1), (2, 1, 2), (2, 0, 2), (2, 2, 0), (3, 0, 1), (2, 0, 0)):
            plan = some_plan(q, a, b, seed=3)
            many = set()
            for sheet in all_sheets(q, a, b):
                found = mends(plan, sheet)
                self.assertEqual(found, mends_by_the_words(plan, sheet))
                many.add(len(found))
            if a * b > 0:
                self.assertTrue({0, 1} & many and max(many) > 1)

    def test_of_some_sheets(self):
        for q, a, b in ((2, 2, 2), (2, 3, 2), (3, 2, 2), (2, 2, 3)):
            plan = some_plan(q, a, b, seed=q)
            for seed in range(40):
                sheet = some_sheet(q, a, b, seed=seed)
                self.assertEqual(mends(plan, sheet), mends_by_the_words(plan, sheet))
            for cloth in all_cloths(plan)[::5]:
                for one in wires(a, b)[::3]:
                    for other in wires(a, b)[::2]:
                        twice = changed(changed(cloth, one, 1 - letter(cloth, one) // q), other, 0)
                        self.assertEqual(mends(plan, twice), mends_by_the_words(plan, twice))

    def test_a_cloth_is_a_cloth_by_no_other_letter_at_a_crossing(self):
        for a, b in ((1, 1), (3, 2), (4, 3)):
            plan = some_plan(3, a, b, seed=6)
            self.assertEqual(mends(plan, some_cloth(plan)), ())

    def test_wires_that_touch_no_crossing_may_have_any_letter(self):
        plan = (3, (through(3),), 0, ((), ()))
        self.assertEqual(mends(plan, (((1,), (0,)), ())), (
            (("row", 0, 0), 0), (("row", 0, 0), 2), (("row", 1, 0), 1), (("row", 1, 0), 2)))
        plan = (2, (through(2),), 3, ())
        self.assertEqual(mends(plan, ((), ((1,), (0,), (1,)))), (
            (("column", 0, 0), 0), (("column", 1, 0), 1), (("column", 2, 0), 0)))
        self.assertEqual(mends((2, (through(2),), 0, ()), ((), ())), ())

    def test_more_than_one_change_may_mend(self):
        plan = (3, (through(3),), 1, ((0,),))
        self.assertEqual(mends(plan, (((0, 1),), ((2, 2),))), ((("row", 0, 0), 1), (("row", 0, 1), 0)))

    def test_broken_at_two_neighbours_only_the_wire_between_mends(self):
        sheet = changed(ALL_NOUGHT, ("row", 1, 1), 1)
        self.assertEqual(mends(STRAIGHT, sheet), ((("row", 1, 1), 0),))

    def test_sheets_that_no_single_change_mends(self):
        far_apart = changed(changed(ALL_NOUGHT, ("row", 0, 0), 1), ("row", 1, 2), 1)
        self.assertEqual(broken(STRAIGHT, far_apart), ((0, 0), (1, 1)))
        self.assertEqual(mends(STRAIGHT, far_apart), ())
        at_one_crossing = changed(changed(ALL_NOUGHT, ("row", 0, 0), 1), ("column", 0, 0), 1)
        self.assertEqual(broken(STRAIGHT, at_one_crossing), ((0, 0),))
        self.assertEqual(mends(STRAIGHT, at_one_crossing), ())
        one_each = (((0, 1, 0), (1, 0, 1)), ((0, 1, 0), (1, 0, 1)))
        self.assertEqual(mends(STRAIGHT, one_each), ())

    def test_of_forty(self):
        plan = some_plan(7, 40, 40, seed=2)
        cloth = some_cloth(plan)
        self.assertEqual(mends(plan, cloth), ())
        for wire in (("row", 0, 0), ("row", 39, 40), ("column", 20, 20), ("column", 0, 40), ("row", 7, 39)):
            sheet = changed(cloth, wire, (letter(cloth, wire) + 3) % 7)
            self.assertEqual(broken(plan, sheet), touching(40, 40, wire))
            self.assertIn((wire, letter(cloth, wire)), mends(plan, sheet))
            self.assertTrue(all(is_cloth(plan, changed(sheet, place, sign)) for place, sign in mends(plan, sheet)))
        self.assertEqual(mends(plan, some_sheet(7, 40, 40)), ())
        self.assertEqual(len(mends(some_plan(7, 40, 0), some_sheet(7, 40, 0))), 40 * 6)


if __name__ == "__main__":
    unittest.main()
