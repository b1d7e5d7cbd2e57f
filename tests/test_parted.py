import itertools
import unittest

from cornertold.parted import parted
from cornertold.plans import is_plan, size
from cornertold.sheets import is_cloth, letter
from cornertold.told import told
from cornertold.toldlooks import shows_parted
from cornertold.wires import wires
from tests.samples import FORTY_SIZES, SIZES, some_known


class Parted(unittest.TestCase):
    def look_at(self, a, b, known):
        paper = parted(a, b, known)
        self.assertIs(type(paper), tuple)
        plan, one, other = paper
        self.assertIs(is_plan(plan), True)
        self.assertEqual((plan[0], size(plan)), (2, (a, b)))
        self.assertIs(is_cloth(plan, one), True)
        self.assertIs(is_cloth(plan, other), True)
        agreed = tuple([wire for wire in wires(a, b) if letter(one, wire) == letter(other, wire)])
        self.assertEqual(agreed, told(a, b, known))
        self.assertEqual(parted(a, b, known), paper)
        return paper

    def test_of_all_known_of_small_sizes(self):
        for a, b in ((0, 0), (0, 3), (3, 0), (1, 1), (2, 1), (1, 2), (3, 1), (1, 3)):
            every = wires(a, b)
            for many in range(len(every) + 1):
                for known in itertools.combinations(every, many):
                    self.look_at(a, b, known)

    def test_of_few_known_of_two_by_two(self):
        for many in range(5):
            for known in itertools.combinations(wires(2, 2), many):
                self.look_at(2, 2, known)

    def test_of_some_known(self):
        for a, b in SIZES + ((5, 5), (3, 7), (9, 8)):
            for seed in range(30):
                self.look_at(a, b, some_known(a, b, seed))

    def test_nothing_known(self):
        for a, b in SIZES + FORTY_SIZES:
            plan, one, other = self.look_at(a, b, ())
            for wire in wires(a, b):
                self.assertNotEqual(letter(one, wire), letter(other, wire))

    def test_all_told(self):
        for a, b in SIZES + FORTY_SIZES:
            corner = tuple([("column", i, 0) for i in range(a)] + [("row", j, a) for j in range(b)])
            for known in (wires(a, b), corner):
                plan, one, other = self.look_at(a, b, known)
                self.assertEqual(one, other)

    def test_without_threads_one_way(self):
        for k in (1, 2, 40):
            for known in ((("row", k - 1, 0),), (("row", 0, 0),)):
                plan, one, other = self.look_at(0, k, known)
                self.assertEqual(plan[2:], (0, ((),) * k))
            for known in ((("column", k - 1, 0),), (("column", 0, 0),)):
                plan, one, other = self.look_at(k, 0, known)
                self.assertEqual(plan[2:], (k, ()))

    def test_sizes_up_to_forty(self):
        for a, b in FORTY_SIZES + ((17, 23),):
            for seed in (3, 8, 13):
                self.look_at(a, b, some_known(a, b, seed)[::5])

    def test_each_leg_alone_and_opposite_ones(self):
        left, low, right, high = ("row", 0, 0), ("column", 0, 0), ("row", 0, 1), ("column", 0, 1)
        for known in ((left,), (low,), (right,), (high,), (left, right), (low, high), ()):
            plan, one, other = self.look_at(1, 1, known)
            for wire in wires(1, 1):
                self.assertIs(shows_parted(1, 1, known, wire, (plan, one, other)), wire not in known)

    def test_what_is_told_is_a_paper_for_each_wire_that_is_not(self):
        for a, b in SIZES:
            for seed in range(15):
                known = some_known(a, b, seed)
                paper = parted(a, b, known)
                for wire in wires(a, b):
                    self.assertIs(shows_parted(a, b, known, wire, paper), wire not in told(a, b, known))


if __name__ == "__main__":
    unittest.main()
