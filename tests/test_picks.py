import itertools
import unittest

from cornertold.picks import comes, is_pick, picked
from cornertold.told import is_known
from tests.samples import FORTY_SIZES, ODD_THINGS, SIZES, all_picks, some_pick, spoiled


class IsPick(unittest.TestCase):
    def test_all_of_small_sizes_and_no_other_numbers(self):
        for a, b in ((0, 0), (0, 1), (1, 0), (0, 2), (2, 0), (1, 1), (2, 1), (1, 2), (2, 2)):
            so = set(all_picks(a, b))
            for rows, columns in itertools.product(range(4), repeat=2):
                for xs in itertools.product(range(-1, 4), repeat=rows):
                    for ys in itertools.product((-1, 0, 1, 2, 3), repeat=columns):
                        self.assertIs(is_pick(a, b, (xs, ys)), (xs, ys) in so)

    def test_at_the_first_and_the_last_wires(self):
        for a, b in SIZES + FORTY_SIZES:
            for x, y in ((0, 0), (a, 0), (0, b), (a, b)):
                self.assertIs(is_pick(a, b, ((x,) * b, (y,) * a)), True)
            for x, y in ((-1, 0), (a + 1, 0), (-a - 1, 0)):
                self.assertIs(is_pick(a, b, ((x,) * b, (y,) * a)), b == 0)
            for x, y in ((0, -1), (0, b + 1), (0, -b - 1)):
                self.assertIs(is_pick(a, b, ((x,) * b, (y,) * a)), a == 0)

    def test_no_rows_and_no_columns(self):
        self.assertIs(is_pick(0, 0, ((), ())), True)
        self.assertIs(is_pick(2, 0, ((), (0, 0))), True)
        self.assertIs(is_pick(0, 2, ((0, 0), ())), True)
        self.assertIs(is_pick(2, 0, ((0, 0), ())), False)
        self.assertIs(is_pick(0, 2, ((), (0, 0))), False)
        self.assertIs(is_pick(0, 2, ((1, 0), ())), False)
        self.assertIs(is_pick(2, 0, ((), (0, 1))), False)
        for wrong in ((), ((),), ((), (), ()), ((), ((),)), [(), ()], ([], ())):
            self.assertIs(is_pick(0, 0, wrong), False)

    def test_rows_and_columns_exchanged(self):
        self.assertIs(is_pick(3, 2, ((3, 3), (2, 2, 2))), True)
        self.assertIs(is_pick(3, 2, ((2, 2, 2), (3, 3))), False)
        self.assertIs(is_pick(2, 3, ((3, 3), (2, 2, 2))), False)
        self.assertIs(is_pick(3, 2, ((3, 3), (2, 3, 2))), False)

    def test_anything(self):
        for thing in ODD_THINGS:
            for a, b in SIZES[1:]:
                self.assertIs(is_pick(a, b, thing), False)
            self.assertIs(is_pick(2, 1, ((0,), thing)), False)
            self.assertIs(is_pick(1, 2, (thing, (0,))), False)
            if not (type(thing) is int and 0 <= thing <= 1):
                self.assertIs(is_pick(1, 1, ((thing,), (0,))), False)
                self.assertIs(is_pick(1, 1, ((0,), (thing,))), False)

    def test_spoiled(self):
        for pick in (((1,), (0,)), ((0, 1), (2, 0)), ((0, 3, 1), (3, 1, 0))):
            a, b = len(pick[1]), len(pick[0])
            self.assertIs(is_pick(a, b, pick), True)
            for wrong in spoiled(pick):
                self.assertIs(is_pick(a, b, wrong), False)


class Picked(unittest.TestCase):
    def test_written_out(self):
        self.assertEqual(picked(((2, 0), (1, 2))), (("column", 0, 1), ("column", 1, 2), ("row", 0, 2), ("row", 1, 0)))
        self.assertEqual(picked(((), ())), ())
        self.assertEqual(picked(((0, 0), ())), (("row", 0, 0), ("row", 1, 0)))
        self.assertEqual(picked(((), (0,))), (("column", 0, 0),))

    def test_one_wire_of_each_thread_rising(self):
        for a, b in SIZES + FORTY_SIZES:
            for seed in range(6):
                xs, ys = pick = some_pick(a, b, seed)
                self.assertIs(is_pick(a, b, pick), True)
                by_words = [("row", j, xs[j]) for j in range(b)] + [("column", i, ys[i]) for i in range(a)]
                self.assertEqual(picked(pick), tuple(sorted(by_words)))
                self.assertIs(is_known(a, b, picked(pick)), True)


class Comes(unittest.TestCase):
    def test_all_at_one_crossing(self):
        self.assertEqual(comes(((0,), (0,)), 0, 0), (0, 1))
        self.assertEqual(comes(((1,), (0,)), 0, 0), (2, 1))
        self.assertEqual(comes(((1,), (1,)), 0, 0), (2, 3))
        self.assertEqual(comes(((0,), (1,)), 0, 0), (0, 3))

    def test_from_the_pick_outward_both_ways(self):
        pick = ((2, 0, 4), (1, 0, 3, 2))
        self.assertEqual([comes(pick, i, 0)[0] for i in range(4)], [2, 2, 0, 0])
        self.assertEqual([comes(pick, i, 1)[0] for i in range(4)], [0, 0, 0, 0])
        self.assertEqual([comes(pick, i, 2)[0] for i in range(4)], [2, 2, 2, 2])
        self.assertEqual([comes(pick, 0, j)[1] for j in range(3)], [3, 1, 1])
        self.assertEqual([comes(pick, 1, j)[1] for j in range(3)], [1, 1, 1])
        self.assertEqual([comes(pick, 2, j)[1] for j in range(3)], [3, 3, 3])
        self.assertEqual([comes(pick, 3, j)[1] for j in range(3)], [3, 3, 1])

    def test_by_the_words(self):
        for a, b in SIZES + ((40, 40), (40, 3)):
            xs, ys = pick = some_pick(a, b, a + 2 * b)
            for i, j in itertools.product(range(a), range(b)):
                self.assertEqual(comes(pick, i, j), (0 if xs[j] <= i else 2, 1 if ys[i] <= j else 3))


if __name__ == "__main__":
    unittest.main()
