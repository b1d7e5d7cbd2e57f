import itertools
import unittest

from cornertold.errors import ClothError, OneThread
from cornertold.mills import mill
from cornertold.pickings import count_picks, pick_with
from cornertold.picks import is_pick, picked
from cornertold.wires import wires
from tests.samples import SMALL_SIZES, all_picks, mills_by_the_words


class CountPicks(unittest.TestCase):
    def test_all_small_sizes_by_the_words(self):
        for a, b in SMALL_SIZES:
            slow = sum(1 for pick in all_picks(a, b) if not mills_by_the_words(pick))
            self.assertEqual(count_picks(a, b), slow)

    def test_written_out(self):
        for k in range(4):
            self.assertEqual(count_picks(0, k), 1)
            self.assertEqual(count_picks(k, 0), 1)
            self.assertEqual(count_picks(1, k), 2 ** k * (k + 1))
            self.assertEqual(count_picks(k, 1), 2 ** k * (k + 1))
        self.assertEqual([count_picks(2, 2), count_picks(2, 3), count_picks(3, 2)], [79, 406, 406])
        self.assertEqual(count_picks(3, 3), 3528)


class PickWith(unittest.TestCase):
    def look_at(self, a, b, one, other):
        pick = pick_with(a, b, one, other)
        self.assertIs(is_pick(a, b, pick), True)
        self.assertTrue({one, other} <= set(picked(pick)))
        self.assertIsNone(mill(pick))
        if a < 40:
            self.assertEqual(mills_by_the_words(pick), [])
        self.assertEqual(pick_with(a, b, one, other), pick)

    def test_any_two_wires_of_small_sizes(self):
        for a, b in SMALL_SIZES + ((4, 4), (5, 2), (2, 5)):
            for one, other in itertools.product(wires(a, b), repeat=2):
                if one[:2] == other[:2]:
                    with self.assertRaises(OneThread):
                        pick_with(a, b, one, other)
                else:
                    self.look_at(a, b, one, other)

    def test_at_ends_and_within_of_forty(self):
        rows = [("row", j, x) for j in (0, 20, 39) for x in (0, 1, 17, 39, 40)]
        columns = [("column", i, y) for i in (0, 20, 39) for y in (0, 1, 17, 39, 40)]
        for one, other in list(itertools.permutations(rows + columns, 2))[::5]:
            if one[:2] != other[:2]:
                self.look_at(40, 40, one, other)
        self.look_at(0, 40, ("row", 0, 0), ("row", 39, 0))
        self.look_at(40, 0, ("column", 39, 0), ("column", 1, 0))

    def test_one_thread(self):
        for one, other in ((("row", 1, 0), ("row", 1, 2)), (("row", 1, 2), ("row", 1, 0)), (("row", 0, 1),) * 2,
                           (("column", 1, 3), ("column", 1, 0)), (("column", 0, 0),) * 2):
            with self.assertRaises(OneThread) as caught:
                pick_with(2, 3, one, other)
            self.assertIsInstance(caught.exception, ClothError)
            self.assertNotEqual(str(caught.exception), "")
        # A row and a column of one number are two threads.
        self.look_at(2, 3, ("row", 1, 1), ("column", 1, 1))


if __name__ == "__main__":
    unittest.main()
