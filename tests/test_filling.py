import itertools
import unittest

from cornertold.errors import Milled
from cornertold.filling import ends_at, filled
from cornertold.sheets import is_cloth, letter
from cornertold.tables import lifted, pushed, through
from cornertold.weaving import woven
from tests.samples import (
    FORTY_SIZES, MILLED_BACK, MILLED_FORTH, SIZES, all_cloths, all_picks, mills_by_the_words, some_cloth, some_numbers,
    some_pick, some_plan, some_sheet)


class EndsAt(unittest.TestCase):
    def test_written_out(self):
        sheet = (((0, 1, 2), (3, 4, 5)), ((6, 0, 1), (2, 3, 4)))
        self.assertEqual(ends_at(sheet, ((0, 0), (0, 0))), ((0, 3), (6, 2)))
        self.assertEqual(ends_at(sheet, ((2, 1), (1, 2))), ((2, 4), (0, 4)))
        self.assertEqual(ends_at(sheet, ((2, 2), (2, 2))), ((2, 5), (1, 4)))

    def test_without_threads(self):
        self.assertEqual(ends_at(((), ()), ((), ())), ((), ()))
        self.assertEqual(ends_at((((3,), (5,)), ()), ((0, 0), ())), ((3, 5), ()))
        self.assertEqual(ends_at(((), ((3,), (5,))), ((), (0, 0))), ((), (3, 5)))

    def test_by_the_words_of_any_sheet_and_pick(self):
        for a, b in SIZES + FORTY_SIZES:
            for seed in range(5):
                sheet = some_sheet(5, a, b, seed=seed)
                xs, ys = pick = some_pick(a, b, seed)
                rows = tuple(letter(sheet, ("row", j, xs[j])) for j in range(b))
                columns = tuple(letter(sheet, ("column", i, ys[i])) for i in range(a))
                self.assertEqual(ends_at(sheet, pick), (rows, columns))

    def test_a_pick_with_a_mill_has_letters_too(self):
        sheet = (((0, 1, 2), (3, 4, 5)), ((6, 0, 1), (2, 3, 4)))
        self.assertEqual(ends_at(sheet, MILLED_FORTH), ((0, 5), (1, 2)))


class Filled(unittest.TestCase):
    def look_at(self, plan, pick, ends):
        cloth = filled(plan, pick, ends)
        self.assertIs(is_cloth(plan, cloth), True)
        self.assertEqual(ends_at(cloth, pick), ends)
        return cloth

    def test_written_out(self):
        turns = ((0, 1), (1, 0))
        plan = (2, (through(2), pushed(2, turns), lifted(2, turns)), 2, ((1, 0), (2, 1)))
        cloth = (((1, 0, 0), (1, 1, 0)), ((1, 1, 0), (1, 1, 1)))
        self.assertEqual(filled(plan, ((1, 1), (1, 1)), ((0, 1), (1, 1))), cloth)
        self.assertEqual(filled(plan, ((0, 2), (2, 1)), ((1, 0), (0, 1))), cloth)

    def test_all_picks_and_all_letters_of_small_sizes(self):
        for q, a, b in ((2, 1, 1), (2, 2, 1), (2, 1, 2), (2, 2, 2), (3, 1, 1), (3, 2, 1), (5, 1, 1)):
            plan = some_plan(q, a, b, seed=q + 2 * a)
            for pick in all_picks(a, b):
                if mills_by_the_words(pick):
                    continue
                for letters in list(itertools.product(range(q), repeat=a + b))[::1 if a * b < 4 else 3]:
                    self.look_at(plan, pick, (letters[:b], letters[b:]))

    def test_each_cloth_comes_again_from_each_pick(self):
        for q, a, b in ((2, 2, 2), (3, 2, 1), (2, 3, 1), (2, 1, 3)):
            plan = some_plan(q, a, b, seed=9)
            picks = [pick for pick in all_picks(a, b) if not mills_by_the_words(pick)]
            for cloth in all_cloths(plan)[::2]:
                for pick in picks:
                    self.assertEqual(filled(plan, pick, ends_at(cloth, pick)), cloth)

    def test_some_picks_of_greater_sizes_and_all_letters(self):
        for q in range(2, 8):
            for a, b in ((3, 3), (5, 4), (4, 6), (8, 8)):
                plan = some_plan(q, a, b, seed=a + q)
                cloth = some_cloth(plan, seed=b)
                for seed in range(10):
                    pick = some_pick(a, b, seed)
                    if not mills_by_the_words(pick):
                        self.assertEqual(filled(plan, pick, ends_at(cloth, pick)), cloth)

    def test_picks_at_the_rim_are_corners(self):
        for q, a, b in ((2, 3, 2), (3, 4, 4), (7, 2, 5), (4, 0, 3), (4, 3, 0), (4, 0, 0), (6, 40, 40)):
            plan = some_plan(q, a, b, seed=b)
            letters = some_numbers(q, a + b, q)
            ends = (letters[:b], letters[b:])
            for corner, (x, y) in enumerate(((0, 0), (a, 0), (a, b), (0, b))):
                self.assertEqual(self.look_at(plan, ((x,) * b, (y,) * a), ends), woven(plan, corner, ends))

    def test_of_forty_from_within(self):
        for q, a, b in ((7, 40, 40), (2, 40, 1), (3, 1, 40), (5, 0, 40), (5, 40, 0)):
            plan = some_plan(q, a, b)
            cloth = some_cloth(plan)
            xs, ys = some_pick(a, b, 7)
            for pick in ((xs, (b // 2,) * a), ((a // 2,) * b, ys), ((a // 3,) * b, (b // 3,) * a)):
                self.assertEqual(filled(plan, pick, ends_at(cloth, pick)), cloth)

    def test_milled_with_just_the_least_mill(self):
        milled = [(2, 2, MILLED_FORTH), (2, 2, MILLED_BACK), (3, 3, ((0, 3, 0), (3, 0, 0)))]
        milled.extend([(3, 3, pick) for pick in list(all_picks(3, 3))[::7]])
        milled.append((40, 40, ((0,) * 39 + (40,), (40,) * 39 + (0,))))
        seen = 0
        for a, b, pick in milled:
            mills = mills_by_the_words(pick) if a < 40 else [(0, 39, 0, 39, 1)]
            plan = (2, (through(2),), a, ((0,) * a,) * b)
            if mills:
                seen += 1
                with self.assertRaises(Milled) as caught:
                    filled(plan, pick, ((0,) * b, (0,) * a))
                self.assertEqual(caught.exception.mill, mills[0])
            else:
                self.look_at(plan, pick, ((0,) * b, (1,) * a))
        self.assertGreater(seen, 20)


if __name__ == "__main__":
    unittest.main()
