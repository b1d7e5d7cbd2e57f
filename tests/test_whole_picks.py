"""Promise 3, as far as it speaks of papers, picks, mills and orders."""

import itertools
import unittest

from cornertold.errors import Milled
from cornertold.mills import is_mill, mill
from cornertold.orders import order, shows_order
from cornertold.parted import parted
from cornertold.picks import comes, picked
from cornertold.sheets import letter
from cornertold.told import steps, told
from cornertold.toldlooks import shows_parted, shows_told
from cornertold.wires import wires
from tests.samples import SIZES, SMALL_SIZES, all_picks, mills_by_the_words, some_known, some_pick

LEG_OF = {(0, 1): 0, (2, 1): 1, (2, 3): 2, (0, 3): 3}
TELLS_WITHOUT_SUCH_A_PICK = (
    ("column", 0, 1), ("column", 1, 3), ("column", 2, 0), ("column", 3, 2),
    ("row", 0, 4), ("row", 1, 1), ("row", 1, 3), ("row", 2, 0))


def steps_of(pick, crossings):
    """The crossings as steps, each by the legs by which it is come to."""
    return tuple([(i, j, LEG_OF[comes(pick, i, j)]) for i, j in crossings])


def picks_within(a, b, known):
    """All picks whose wires are all known."""
    xs = [[wire[2] for wire in known if wire[:2] == ("row", j)] for j in range(b)]
    ys = [[wire[2] for wire in known if wire[:2] == ("column", i)] for i in range(a)]
    return itertools.product(itertools.product(*xs), itertools.product(*ys))


class Told(unittest.TestCase):
    """(a)"""

    def test_either_steps_or_two_cloths_show_it_never_both(self):
        for a, b in SIZES + ((5, 4), (6, 6)):
            for seed in range(20):
                known = some_known(a, b, seed)
                taken, paper = steps(a, b, known), parted(a, b, known)
                for wire in wires(a, b):
                    so = shows_told(a, b, known, wire, taken)
                    self.assertIs(shows_parted(a, b, known, wire, paper), not so)

    def test_one_cloth_where_that_is_all(self):
        for a, b in SIZES:
            for seed in range(40):
                known = some_known(a, b, seed)
                plan, one, other = parted(a, b, known)
                self.assertIs(one == other, told(a, b, known) == wires(a, b))

    def test_a_pick_with_a_mill_leaves_cloths_that_part(self):
        for pick in all_picks(3, 2):
            plan, one, other = parted(3, 2, picked(pick))
            self.assertIs(one == other, mill(pick) is None)
            for wire in picked(pick):
                self.assertEqual(letter(one, wire), letter(other, wire))


class Picks(unittest.TestCase):
    """(b)"""

    def look_at(self, a, b, pick):
        every = wires(a, b)
        found = mill(pick)
        self.assertIs(told(a, b, picked(pick)) == every, found is None)
        if found is None:
            paper = steps_of(pick, order(pick))
            self.assertIs(shows_order(pick, order(pick)), True)
            for wire in every:
                self.assertIs(shows_told(a, b, picked(pick), wire, paper), True)
        else:
            self.assertIs(is_mill(pick, found), True)
            with self.assertRaises(Milled) as caught:
                order(pick)
            self.assertEqual(caught.exception.mill, found)

    def test_all_picks_of_small_sizes(self):
        for a, b in SMALL_SIZES:
            for pick in all_picks(a, b):
                self.look_at(a, b, pick)

    def test_some_picks(self):
        for a, b in ((5, 5), (4, 7), (9, 3), (8, 8)):
            for seed in range(25):
                self.look_at(a, b, some_pick(a, b, seed))

    def test_of_forty(self):
        for seed in range(3):
            pick = some_pick(40, 40, seed)
            self.assertIs(told(40, 40, picked(pick)) == wires(40, 40), mill(pick) is None)
            straight = ((seed * 13,) * 40, pick[1])
            self.assertIsNone(mill(straight))
            paper = steps_of(straight, order(straight))
            self.assertIs(shows_told(40, 40, picked(straight), ("row", 39, 40), paper), True)
            self.assertEqual(told(40, 40, picked(straight)), wires(40, 40))

    def test_no_fewer_wires_tell_all_and_of_just_so_many_such_picks_alone(self):
        for a, b in ((0, 0), (0, 2), (2, 0), (1, 1), (2, 1), (1, 2), (2, 2), (3, 1), (1, 3), (3, 2)):
            every = wires(a, b)
            for many in range(a + b):
                for known in itertools.combinations(every, many):
                    self.assertNotEqual(told(a, b, known), every)
            so = [known for known in itertools.combinations(every, a + b) if told(a, b, known) == every]
            without = [picked(pick) for pick in all_picks(a, b) if not mills_by_the_words(pick)]
            self.assertEqual(so, sorted(without))

    def test_more_wires_may_tell_all_without_holding_one(self):
        known = TELLS_WITHOUT_SUCH_A_PICK
        self.assertEqual(told(4, 3, known), wires(4, 3))
        within = list(picks_within(4, 3, known))
        self.assertEqual(len(within), 2)
        for pick in within:
            self.assertIsNotNone(mill(pick))
            self.assertNotEqual(told(4, 3, picked(pick)), wires(4, 3))


if __name__ == "__main__":
    unittest.main()
