import unittest

from cornertold.wires import is_wire, legs, wires
from tests.samples import ODD_THINGS, SIZES, spoiled


def by_the_words(a, b):
    """All wires of that size, thread by thread."""
    rows = {("row", j, x) for j in range(b) for x in range(a + 1)}
    return rows | {("column", i, y) for i in range(a) for y in range(b + 1)}


class Wires(unittest.TestCase):
    def test_all_wires_rising(self):
        for a, b in SIZES + ((40, 40), (40, 0), (0, 40)):
            told = wires(a, b)
            self.assertIsInstance(told, tuple)
            self.assertEqual(list(told), sorted(by_the_words(a, b)))

    def test_written_out(self):
        self.assertEqual(wires(0, 0), ())
        self.assertEqual(wires(0, 2), (("row", 0, 0), ("row", 1, 0)))
        self.assertEqual(wires(2, 0), (("column", 0, 0), ("column", 1, 0)))
        self.assertEqual(wires(1, 1), (("column", 0, 0), ("column", 0, 1), ("row", 0, 0), ("row", 0, 1)))

    def test_a_size_beyond_is_told_too(self):
        self.assertEqual(len(wires(41, 42)), 41 * 43 + 42 * 42)

    def test_is_wire_of_all_near_by(self):
        for a, b in SIZES:
            there = by_the_words(a, b)
            for word in ("row", "column", "rows", "Row", ""):
                for number in range(-2, 7):
                    for place in range(-2, 7):
                        wire = (word, number, place)
                        self.assertIs(is_wire(a, b, wire), wire in there)

    def test_is_wire_of_the_greatest_size(self):
        for wire in (("row", 39, 40), ("column", 39, 40)):
            self.assertIs(is_wire(40, 40, wire), True)
        for wire in (("row", 40, 40), ("row", 39, 41), ("column", 40, 40), ("column", 39, 41)):
            self.assertIs(is_wire(40, 40, wire), False)

    def test_is_wire_of_anything(self):
        for thing in ODD_THINGS:
            for a, b in SIZES:
                self.assertIs(is_wire(a, b, thing), False)

    def test_spoiled_wires(self):
        for wire in (("row", 0, 1), ("column", 1, 0), ("row", 1, 2)):
            self.assertIs(is_wire(2, 2, wire), True)
            for wrong in spoiled(wire):
                self.assertIs(is_wire(2, 2, wrong), False)

    def test_legs_left_low_right_high(self):
        self.assertEqual(legs(0, 0), (("row", 0, 0), ("column", 0, 0), ("row", 0, 1), ("column", 0, 1)))
        self.assertEqual(legs(2, 5), (("row", 5, 2), ("column", 2, 5), ("row", 5, 3), ("column", 2, 6)))
        for a, b in SIZES:
            for i in range(a):
                for j in range(b):
                    self.assertTrue(all(is_wire(a, b, wire) for wire in legs(i, j)))


if __name__ == "__main__":
    unittest.main()
