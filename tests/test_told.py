import itertools
import unittest

from cornertold.told import is_known, steps, told
from cornertold.wires import is_wire, legs, wires
from tests.samples import ODD_THINGS, SIZES, some_known, spoiled


def told_by_the_words(a, b, known):
    """The least set, by looking at all crossings again and again."""
    held = set(known)
    grown = True
    while grown:
        grown = False
        for i, j in itertools.product(range(a), range(b)):
            places = legs(i, j)
            if not held.issuperset(places) and any(
                    held.issuperset((places[leg], places[(leg + 1) % 4])) for leg in range(4)):
                held.update(places)
                grown = True
    return tuple(sorted(held))


class IsKnown(unittest.TestCase):
    def test_rising_tuples_of_wires(self):
        for a, b in SIZES:
            self.assertIs(is_known(a, b, ()), True)
            self.assertIs(is_known(a, b, wires(a, b)), True)
            for seed in range(9):
                self.assertIs(is_known(a, b, some_known(a, b, seed)), True)
        self.assertIs(is_known(40, 40, wires(40, 40)), True)

    def test_what_does_not_rise(self):
        one, two, three = ("column", 1, 0), ("row", 0, 1), ("row", 0, 2)
        self.assertIs(is_known(2, 2, (one, two, three)), True)
        for wrong in ((one, three, two), (two, one), (one, one), (one, two, two), (one, two, three, one)):
            self.assertIs(is_known(2, 2, wrong), False)

    def test_wires_of_other_sizes(self):
        self.assertIs(is_known(2, 2, (("row", 0, 2),)), True)
        self.assertIs(is_known(1, 2, (("row", 0, 2),)), False)
        self.assertIs(is_known(2, 0, (("row", 0, 2),)), False)
        for a, b in SIZES:
            self.assertIs(is_known(a, b, wires(a, b) + (("row", b, 0),)), False)
            self.assertIs(is_known(a, b, wires(a, b) + (("rows", 0, 0),)), False)

    def test_anything(self):
        for thing in ODD_THINGS:
            self.assertIs(is_known(2, 2, thing), type(thing) is tuple and len(thing) == 0)
        for thing in ODD_THINGS:
            self.assertIs(is_known(2, 2, (thing,)), False)
            self.assertIs(is_known(2, 2, (("row", 0, 0), thing)), False)

    def test_spoiled(self):
        known = (("column", 0, 0), ("column", 1, 2), ("row", 0, 1))
        for wrong in spoiled(known, lengths=False):
            self.assertIs(is_known(2, 2, wrong), False)
        for at in range(3):
            for wire in (known[at][:2], known[at] + (0,), ()):
                self.assertIs(is_known(2, 2, known[:at] + (wire,) + known[at + 1:]), False)


class Told(unittest.TestCase):
    def test_at_one_crossing(self):
        left, low, right, high = legs(0, 0)
        every = wires(1, 1)
        for pair in ((left, low), (low, right), (right, high), (high, left)):
            self.assertEqual(told(1, 1, tuple(sorted(pair))), every)
        for pair in ((left, right), (low, high)):
            self.assertEqual(told(1, 1, tuple(sorted(pair))), tuple(sorted(pair)))
        for wire in every:
            self.assertEqual(told(1, 1, (wire,)), (wire,))

    def test_none_and_all(self):
        for a, b in SIZES + ((40, 40),):
            self.assertEqual(told(a, b, ()), ())
            self.assertEqual(told(a, b, wires(a, b)), wires(a, b))

    def test_by_the_words_of_all_known_of_small_sizes(self):
        for a, b in ((0, 0), (0, 2), (2, 0), (1, 1), (2, 1), (1, 2), (3, 1), (1, 3)):
            every = wires(a, b)
            for many in range(len(every) + 1):
                for known in itertools.combinations(every, many):
                    self.assertEqual(told(a, b, known), told_by_the_words(a, b, known))

    def test_by_the_words_of_some_known(self):
        for a, b in ((2, 2), (4, 3), (5, 5), (3, 7)):
            for seed in range(60):
                known = some_known(a, b, seed)
                self.assertEqual(told(a, b, known), told_by_the_words(a, b, known))

    def test_from_each_corner_all_is_told(self):
        for a, b in SIZES + ((40, 40), (40, 0), (0, 40)):
            for x, y in ((0, 0), (a, 0), (a, b), (0, b)):
                rows = [("row", j, x) for j in range(b)]
                known = tuple(sorted([*rows, *[("column", i, y) for i in range(a)]]))
                self.assertEqual(told(a, b, known), wires(a, b))
                self.assertEqual(len(steps(a, b, known)), a * b)
                if known:
                    self.assertNotEqual(told(a, b, known[1:]), wires(a, b))


class Steps(unittest.TestCase):
    def look_at(self, a, b, known):
        taken = steps(a, b, known)
        self.assertIsInstance(taken, tuple)
        held = set(known)
        for step in taken:
            self.assertIsInstance(step, tuple)
            i, j, leg = step
            self.assertTrue(0 <= i < a and 0 <= j < b and 0 <= leg < 4)
            places = legs(i, j)
            self.assertTrue(held.issuperset((places[leg], places[(leg + 1) % 4])))
            self.assertFalse(held.issuperset(places))
            held.update(places)
        self.assertEqual(tuple(sorted(held)), told_by_the_words(a, b, known))
        self.assertEqual(steps(a, b, known), taken)

    def test_of_all_known_of_small_sizes(self):
        for a, b in ((0, 0), (0, 2), (2, 0), (1, 1), (2, 1), (1, 2)):
            every = wires(a, b)
            for many in range(len(every) + 1):
                for known in itertools.combinations(every, many):
                    self.look_at(a, b, known)

    def test_of_some_known(self):
        for a, b in ((2, 2), (4, 3), (6, 6), (9, 2)):
            for seed in range(40):
                self.look_at(a, b, some_known(a, b, seed))

    def test_at_one_crossing(self):
        left, low, right, high = legs(0, 0)
        self.assertEqual(steps(1, 1, tuple(sorted((left, low)))), ((0, 0, 0),))
        self.assertEqual(steps(1, 1, tuple(sorted((low, right)))), ((0, 0, 1),))
        self.assertEqual(steps(1, 1, tuple(sorted((right, high)))), ((0, 0, 2),))
        self.assertEqual(steps(1, 1, tuple(sorted((high, left)))), ((0, 0, 3),))
        self.assertEqual(steps(1, 1, tuple(sorted((left, right)))), ())

    def test_none_where_nothing_is_new(self):
        for a, b in SIZES:
            self.assertEqual(steps(a, b, ()), ())
            self.assertEqual(steps(a, b, wires(a, b)), ())

    def test_of_the_greatest_size(self):
        known = tuple(sorted([("row", k, k) for k in range(40)] + [("column", k, k) for k in range(40)]))
        self.assertTrue(all(is_wire(40, 40, wire) for wire in known))
        self.assertEqual(told(40, 40, known), wires(40, 40))
        self.look_at(40, 40, known)


if __name__ == "__main__":
    unittest.main()
