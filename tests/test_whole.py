"""Promise 3, as far as it speaks of known wires, of what they tell, and of woven cloths."""

import itertools
import unittest

from cornertold.sheets import letter
from cornertold.tables import lifted, pushed, through
from cornertold.told import steps, told
from cornertold.toldlooks import shows_parted, shows_told
from cornertold.weaving import cloth_at, count_cloths, number_of, woven
from cornertold.wires import wires
from tests.samples import SIZES, all_cloths, some_known, some_plan

# Any other table of two letters is one of these with letters exchanged on some legs, which parts the same wires.
STRAIGHT = (through(2), pushed(2, ((0, 1), (1, 0))), lifted(2, ((0, 1), (1, 0))))


def straight_plans(a, b):
    for numbers in itertools.product(range(3), repeat=a * b):
        yield (2, STRAIGHT, a, tuple(numbers[j * a:(j + 1) * a] for j in range(b)))


def agreeing(one, other, every):
    return tuple([wire for wire in every if letter(one, wire) == letter(other, wire)])


def known_by(every):
    """All known wires there can be."""
    for many in range(len(every) + 1):
        yield from itertools.combinations(every, many)


class Told(unittest.TestCase):
    """(a)"""

    def test_alike_on_the_known_alike_on_the_told(self):
        for q, a, b in ((2, 2, 2), (3, 2, 1), (3, 1, 2), (4, 1, 1), (2, 3, 1)):
            every = wires(a, b)
            for seed in range(3):
                cloths = all_cloths(some_plan(q, a, b, seed=seed))
                for known in [some_known(a, b, seed) for seed in range(30)]:
                    reached = told(a, b, known)
                    first = {}
                    for cloth in cloths:
                        there = tuple(letter(cloth, wire) for wire in known)
                        brought = tuple(letter(cloth, wire) for wire in reached)
                        self.assertEqual(first.setdefault(there, brought), brought)
                    self.assertEqual(reached, tuple(wire for wire in every if wire in reached))

    def test_two_cloths_of_two_letters_agree_on_just_the_told(self):
        for a, b in ((0, 0), (0, 2), (2, 0), (1, 1), (2, 1), (1, 2), (2, 2), (3, 1)):
            every = wires(a, b)
            parted = {}
            for plan in straight_plans(a, b):
                one = cloth_at(plan, 0)
                for other in all_cloths(plan):
                    parted.setdefault(agreeing(one, other, every), (plan, one, other))
            for known in known_by(every):
                reached = told(a, b, known)
                self.assertIn(reached, parted)
                paper = parted[reached]
                for wire in every:
                    self.assertIs(shows_parted(a, b, known, wire, paper), wire not in reached)

    def test_steps_show_or_cloths_part_never_both(self):
        a, b = 2, 1
        every = wires(a, b)
        papers = [(plan, one, other) for plan in straight_plans(a, b)
                  for one, other in itertools.combinations(all_cloths(plan), 2)]
        for known in known_by(every):
            taken = steps(a, b, known)
            for wire in every:
                if shows_told(a, b, known, wire, taken):
                    self.assertFalse(any(shows_parted(a, b, known, wire, paper) for paper in papers[::5]))

    def test_what_is_told_tells_nothing_more(self):
        for a, b in SIZES:
            for seed in range(20):
                known = some_known(a, b, seed)
                reached = told(a, b, known)
                self.assertTrue(set(known) <= set(reached))
                self.assertEqual(told(a, b, reached), reached)
                self.assertEqual(steps(a, b, reached), ())


class Corners(unittest.TestCase):
    """(b), of the picks at the corners."""

    def test_to_whatever_letters_there_is_just_one_cloth(self):
        for q, a, b in ((2, 2, 2), (3, 1, 2), (3, 2, 1)):
            plan = some_plan(q, a, b, seed=8)
            for corner in range(4):
                numbers = [number_of(plan, woven(plan, corner, (letters[:b], letters[b:])))
                           for letters in itertools.product(range(q), repeat=a + b)]
                self.assertEqual(sorted(numbers), list(range(count_cloths(plan))))

    def test_no_fewer_wires_than_threads_tell_all_and_each_thread_has_one(self):
        for a, b in ((1, 1), (2, 1), (1, 2), (2, 2)):
            every = wires(a, b)
            for known in known_by(every):
                if told(a, b, known) == every:
                    self.assertEqual(len({wire[:2] for wire in known}), a + b)

    def test_a_pick_with_a_mill_does_not_tell_all(self):
        left_low_mill = (("column", 0, 2), ("column", 1, 0), ("row", 0, 0), ("row", 1, 2))
        self.assertEqual(told(2, 2, left_low_mill), left_low_mill)
        right_low_mill = (("column", 0, 0), ("column", 1, 2), ("row", 0, 2), ("row", 1, 0))
        self.assertEqual(told(2, 2, right_low_mill), right_low_mill)
        told_by_all_picks = [
            told(2, 2, (("column", 0, y), ("column", 1, v), ("row", 0, x), ("row", 1, u))) == wires(2, 2)
            for x, u, y, v in itertools.product(range(3), repeat=4)]
        self.assertEqual(told_by_all_picks.count(False), 2)


if __name__ == "__main__":
    unittest.main()
