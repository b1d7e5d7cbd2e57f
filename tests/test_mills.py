import itertools
import unittest

from cornertold.mills import is_mill, mill
from tests.samples import (
    FORTY_SIZES, MILLED_BACK, MILLED_FORTH, ODD_THINGS, SIZES, SMALL_SIZES, all_picks, mills_by_the_words, some_pick,
    spoiled)


class IsMill(unittest.TestCase):
    def test_all_picks_of_small_sizes_by_the_words(self):
        for a, b in SMALL_SIZES[:-1]:
            tried = list(itertools.product(range(-1, a + 1), range(-1, a + 1), range(-1, b + 1), range(-1, b + 1),
                                           (-2, -1, 0, 1, 2)))
            for pick in all_picks(a, b):
                so = mills_by_the_words(pick)
                self.assertEqual(sorted([thing for thing in tried if is_mill(pick, thing)]), so)

    def test_three_by_three_by_the_words(self):
        tried = list(itertools.product(range(3), range(3), range(3), range(3), (-1, 1)))
        for pick in all_picks(3, 3):
            self.assertEqual([thing for thing in tried if is_mill(pick, thing)], mills_by_the_words(pick))

    def test_written_out(self):
        self.assertIs(is_mill(MILLED_FORTH, (0, 1, 0, 1, 1)), True)
        self.assertIs(is_mill(MILLED_FORTH, (0, 1, 0, 1, -1)), False)
        self.assertIs(is_mill(MILLED_BACK, (0, 1, 0, 1, -1)), True)
        self.assertIs(is_mill(MILLED_BACK, (0, 1, 0, 1, 1)), False)
        # One thread turned round lets the mill stand still.
        for pick in (((2, 2), (2, 0)), ((0, 0), (2, 0)), ((0, 2), (0, 0)), ((0, 2), (2, 2)), ((1, 2), (2, 0)),
                     ((0, 1), (2, 0)), ((0, 2), (1, 0)), ((0, 2), (2, 1))):
            self.assertIs(is_mill(pick, (0, 1, 0, 1, 1)), False)
            self.assertIs(is_mill(pick, (0, 1, 0, 1, -1)), False)

    def test_columns_or_rows_exchanged_and_other_turns(self):
        for pick, turn in ((MILLED_FORTH, 1), (MILLED_BACK, -1)):
            for thing in ((1, 0, 0, 1, turn), (0, 1, 1, 0, turn), (1, 0, 1, 0, turn), (0, 0, 0, 1, turn),
                          (0, 1, 1, 1, turn), (1, 0, 0, 1, -turn), (0, 1, 1, 0, -turn), (0, 1, 0, 1, 0),
                          (0, 1, 0, 1, 2 * turn), (0, 2, 0, 1, turn), (0, 1, 0, 2, turn), (-1, 1, 0, 1, turn),
                          (0, 1, -1, 1, turn), (-2, 1, 0, 1, turn), (0, -1, 0, 1, turn), (0, 1, 0, -1, turn),
                          (0, 10 ** 30, 0, 1, turn), (0, 1, 0, 1, 10 ** 30)):
                self.assertIs(is_mill(pick, thing), False)

    def test_without_threads(self):
        for pick in (((), ()), ((0, 0), ()), ((), (0, 0)), ((0,), (1,))):
            self.assertIs(is_mill(pick, (0, 1, 0, 1, 1)), False)
            self.assertIs(is_mill(pick, ()), False)

    def test_anything(self):
        for pick in (MILLED_FORTH, MILLED_BACK, ((), ())):
            for thing in ODD_THINGS:
                self.assertIs(is_mill(pick, thing), False)
                self.assertIs(is_mill(pick, (thing,) * 5), False)
                self.assertIs(is_mill(pick, (0, 1, 0, thing, 0)), False)

    def test_spoiled(self):
        for pick, thing in ((MILLED_FORTH, (0, 1, 0, 1, 1)), (((3, 0, 3), (1, 3, 0)), (1, 2, 1, 2, 1))):
            self.assertIs(is_mill(pick, thing), True)
            for wrong in spoiled(thing):
                self.assertIs(is_mill(pick, wrong), False)
        for wrong in ((False, 1, 0, 1, 1), (0, True, 0, 1, 1), (0, 1, False, 1, 1), (0, 1, 0, True, 1),
                      (0, 1, 0, 1, True), [0, 1, 0, 1, 1], (0, 1, 0, 1), (0, 1, 0, 1, 1, 1), ((0, 1, 0, 1, 1),),
                      ((0, 1), (0, 1), 1), "01011", None):
            self.assertIs(is_mill(MILLED_FORTH, wrong), False)


class Mill(unittest.TestCase):
    def look_at(self, pick):
        found = mills_by_the_words(pick)
        self.assertEqual(mill(pick), found[0] if found else None)

    def test_all_picks_of_small_sizes_by_the_words(self):
        for a, b in SMALL_SIZES + ((4, 2), (2, 4)):
            for pick in all_picks(a, b):
                self.look_at(pick)

    def test_some_picks_by_the_words(self):
        for a, b in SIZES + ((5, 5), (7, 4), (4, 9), (11, 11)):
            for seed in range(60):
                self.look_at(some_pick(a, b, seed))

    def test_the_least_of_several_by_each_number(self):
        self.assertEqual(mills_by_the_words(((0, 3, 0), (3, 0, 0))), [(0, 1, 0, 1, 1), (0, 2, 0, 1, 1)])
        self.assertEqual(mill(((0, 3, 0), (3, 0, 0))), (0, 1, 0, 1, 1))
        self.assertEqual(mills_by_the_words(((0, 3, 0, 3), (4, 0, 0)))[:3],
                         [(0, 1, 0, 1, 1), (0, 1, 0, 3, 1), (0, 1, 2, 3, 1)])
        self.assertEqual(mill(((0, 3, 0, 3), (4, 0, 0))), (0, 1, 0, 1, 1))

    def test_mills_of_both_turns_in_one_pick(self):
        both = [pick for pick in all_picks(3, 3) if len({found[4] for found in mills_by_the_words(pick)}) == 2]
        self.assertTrue({mill(pick)[4] for pick in both} == {1, -1})
        for pick in both:
            self.look_at(pick)

    def test_none(self):
        for a, b in SIZES + FORTY_SIZES:
            for x, y in ((0, 0), (a, 0), (0, b), (a, b), (a // 2, b // 2)):
                self.assertIsNone(mill(((x,) * b, (y,) * a)))
            for seed in range(3):
                xs, ys = some_pick(a, b, seed)
                self.assertIsNone(mill(((a // 2,) * b, ys)))
                self.assertIsNone(mill((xs, (b // 2,) * a)))

    def test_of_forty(self):
        half = ((0,) * 39 + (40,), (40,) * 39 + (0,))
        self.assertEqual(mill(half), (0, 39, 0, 39, 1))
        self.assertEqual(mill(((40,) * 39 + (0,), (0,) * 39 + (40,))), (0, 39, 0, 39, -1))
        for seed in range(4):
            self.look_at(some_pick(40, 12, seed))


if __name__ == "__main__":
    unittest.main()
