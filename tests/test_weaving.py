import itertools
import unittest

from cornertold.errors import NoNumber
from cornertold.plans import size
from cornertold.sheets import is_cloth, letter
from cornertold.tables import lifted, pushed, through
from cornertold.weaving import cloth_at, count_cloths, number_of, woven
from cornertold.wires import wires
from tests.samples import ODD_THINGS, SIZES, all_cloths, all_sheets, some_cloth, some_numbers, some_plan


def ends_of(cloth, corner):
    """The letters of a cloth at a corner, by the words of the document."""
    rows, columns = cloth
    x = {0: 0, 1: -1, 2: -1, 3: 0}[corner]
    y = {0: 0, 1: 0, 2: -1, 3: -1}[corner]
    return (tuple(row[x] for row in rows), tuple(column[y] for column in columns))


class Woven(unittest.TestCase):
    def test_written_out(self):
        turns = ((0, 1), (1, 0))
        plan = (2, (through(2), pushed(2, turns), lifted(2, turns)), 2, ((1, 0), (2, 1)))
        cloth = (((1, 0, 0), (1, 1, 0)), ((1, 1, 0), (1, 1, 1)))
        for corner, ends in enumerate((
                ((1, 1), (1, 1)), ((0, 0), (1, 1)), ((0, 0), (0, 1)), ((1, 1), (0, 1)))):
            self.assertEqual(woven(plan, corner, ends), cloth)

    def test_from_each_corner_whatever_the_letters(self):
        for q, a, b in ((2, 1, 1), (2, 2, 1), (2, 1, 2), (2, 2, 2), (3, 1, 1), (3, 2, 1), (5, 1, 1)):
            plan = some_plan(q, a, b, seed=q + a)
            for corner in range(4):
                for letters in itertools.product(range(q), repeat=a + b):
                    ends = (letters[:b], letters[b:])
                    cloth = woven(plan, corner, ends)
                    self.assertTrue(is_cloth(plan, cloth))
                    self.assertEqual(ends_of(cloth, corner), ends)

    def test_from_each_corner_the_same_cloth(self):
        for q in range(2, 8):
            for a, b in SIZES + ((7, 5), (40, 40), (40, 1), (1, 40)):
                plan = some_plan(q, a, b, seed=a)
                cloth = some_cloth(plan, seed=q)
                self.assertTrue(is_cloth(plan, cloth))
                for corner in range(4):
                    self.assertEqual(woven(plan, corner, ends_of(cloth, corner)), cloth)

    def test_without_threads_one_way(self):
        for corner in range(4):
            self.assertEqual(woven(some_plan(3, 0, 0), corner, ((), ())), ((), ()))
            self.assertEqual(woven(some_plan(3, 0, 2), corner, ((2, 1), ())), (((2,), (1,)), ()))
            self.assertEqual(woven(some_plan(3, 2, 0), corner, ((), (2, 1))), ((), ((2,), (1,))))
        forty = some_numbers(9, 40, 7)
        for corner in range(4):
            columns = tuple((sign,) for sign in forty)
            self.assertEqual(woven(some_plan(7, 40, 0), corner, ((), forty)), ((), columns))
            self.assertEqual(woven(some_plan(7, 0, 40), corner, (forty, ())), (columns, ()))


class Numbers(unittest.TestCase):
    def test_count(self):
        for q in range(2, 8):
            for a, b in SIZES + ((40, 40), (40, 0), (0, 40)):
                self.assertEqual(count_cloths(some_plan(q, a, b)), q ** (a + b))

    def test_all_cloths_are_told_and_no_other_sheet_is_one(self):
        for a, b in ((0, 0), (0, 2), (2, 0), (1, 1), (2, 1), (1, 2), (2, 2)):
            plan = some_plan(2, a, b, seed=3 * a + b)
            cloths = {sheet for sheet in all_sheets(2, a, b) if is_cloth(plan, sheet)}
            self.assertEqual(len(cloths), count_cloths(plan))
            self.assertEqual(set(all_cloths(plan)), cloths)

    def test_cloths_rise_by_their_ends_at_corner_0(self):
        for q, a, b in ((2, 0, 0), (2, 3, 2), (3, 2, 2), (4, 1, 2), (7, 1, 1), (3, 0, 3), (3, 3, 0)):
            plan = some_plan(q, a, b)
            ends = [ends_of(cloth, 0) for cloth in all_cloths(plan)]
            self.assertEqual(ends, sorted(set(ends)))
            self.assertEqual(len(ends), q ** (a + b))
            for number, cloth in enumerate(all_cloths(plan)):
                self.assertTrue(is_cloth(plan, cloth))
                self.assertEqual(number_of(plan, cloth), number)

    def test_row_letters_come_ahead_of_column_letters(self):
        plan = (3, (through(3),), 2, ((0, 0),))
        self.assertEqual(cloth_at(plan, 0), (((0, 0, 0),), ((0, 0), (0, 0))))
        self.assertEqual(cloth_at(plan, 1), (((0, 0, 0),), ((0, 0), (1, 1))))
        self.assertEqual(cloth_at(plan, 3), (((0, 0, 0),), ((1, 1), (0, 0))))
        self.assertEqual(cloth_at(plan, 9), (((1, 1, 1),), ((0, 0), (0, 0))))
        self.assertEqual(cloth_at(plan, 26), (((2, 2, 2),), ((2, 2), (2, 2))))
        self.assertEqual(number_of(plan, (((1, 1, 1),), ((2, 2), (0, 0)))), 15)

    def test_first_last_and_beyond_of_the_greatest_plan(self):
        plan = some_plan(7, 40, 40)
        many = 7 ** 80
        for number in (0, 1, many // 3, many - 2, many - 1):
            cloth = cloth_at(plan, number)
            self.assertTrue(is_cloth(plan, cloth))
            self.assertEqual(number_of(plan, cloth), number)
        self.assertEqual(ends_of(cloth_at(plan, many - 1), 0), ((6,) * 40, (6,) * 40))
        for number in (-1, many, many + 1, -many):
            with self.assertRaises(NoNumber) as caught:
                cloth_at(plan, number)
            self.assertEqual(caught.exception.number, number)

    def test_numbers_beyond_of_small_plans(self):
        for a, b in SIZES:
            plan = some_plan(2, a, b)
            self.assertEqual(size(plan), (a, b))
            self.assertTrue(is_cloth(plan, cloth_at(plan, 2 ** (a + b) - 1)))
            for number in (-1, 2 ** (a + b)):
                with self.assertRaises(NoNumber) as caught:
                    cloth_at(plan, number)
                self.assertEqual(caught.exception.number, number)

    def test_anything_as_number(self):
        for plan in (some_plan(2, 0, 0), some_plan(3, 2, 2)):
            for thing in ODD_THINGS + ("1", (1,), [1], b"1"):
                if type(thing) is int and 0 <= thing < count_cloths(plan):
                    continue
                with self.assertRaises(NoNumber) as caught:
                    cloth_at(plan, thing)
                self.assertIs(caught.exception.number, thing)


class Counted(unittest.TestCase):
    """Promise 3 (c), as far as corners and two wires go."""

    def test_letters_on_some_ends_of_a_corner_leave_the_others_free(self):
        plan = some_plan(2, 2, 2, seed=11)
        cloths = all_cloths(plan)
        for corner in range(4):
            for fixed in itertools.product((None, 0, 1), repeat=4):
                standing = 0
                for cloth in cloths:
                    row_letters, column_letters = ends_of(cloth, corner)
                    signs = row_letters + column_letters
                    standing += all(want is None or want == sign for want, sign in zip(fixed, signs))
                self.assertEqual(standing, 2 ** fixed.count(None))

    def test_each_pair_of_letters_on_two_wires_of_unlike_threads(self):
        for q, a, b in ((2, 3, 2), (3, 2, 1), (3, 1, 2), (2, 1, 4)):
            plan = some_plan(q, a, b, seed=a + b)
            cloths = all_cloths(plan)
            for one, other in itertools.combinations(wires(a, b), 2):
                if one[:2] != other[:2]:
                    pairs = [(letter(cloth, one), letter(cloth, other)) for cloth in cloths]
                    for pair in itertools.product(range(q), repeat=2):
                        self.assertEqual(pairs.count(pair), q ** (a + b - 2))


if __name__ == "__main__":
    unittest.main()
