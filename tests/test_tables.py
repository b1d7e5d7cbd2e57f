import itertools
import unittest

from cornertold.tables import (
    flipped, is_table, is_tables, lifted, pushed, quad_by, tables_of_two, through, turned)
from tests.samples import ODD_THINGS, mixed, orders, some_tables, spoiled


class IsTable(unittest.TestCase):
    def test_tables_of_all_numbers_of_letters(self):
        for q in range(2, 8):
            for table in some_tables(q):
                self.assertIs(is_table(q, table), True)

    def test_tables_of_other_numbers_of_letters(self):
        for q in range(2, 8):
            for other in range(2, 8):
                if other != q:
                    self.assertIs(is_table(other, through(q)), False)

    def test_there_are_tables_of_two_to_seven_letters(self):
        for q in (-1, 0, 1, 8, 9):
            self.assertIs(is_table(q, through(q)), False)

    def test_letters_have_to_be_those_below_q(self):
        for q in range(2, 8):
            for beyond in (q, -1, 10 ** 30):
                names = list(range(q - 1)) + [beyond]
                quads = tuple(sorted((l, w, l, w) for l in names for w in names))
                self.assertIs(is_table(q, quads), False)
            raised = tuple((l + 1, w + 1, l + 1, w + 1) for l, w, r, h in through(q))
            self.assertIs(is_table(q, raised), False)

    def test_anything(self):
        for thing in ODD_THINGS:
            for q in (2, 3, 7):
                self.assertIs(is_table(q, thing), False)

    def test_spoiled_tables(self):
        for table in (tables_of_two()[5], mixed(3)):
            for wrong in spoiled(table):
                self.assertIs(is_table({4: 2, 9: 3}[len(table)], wrong), False)

    def test_quads_have_to_rise(self):
        one, two, three, four = through(2)
        self.assertIs(is_table(2, (one, two, three, four)), True)
        for wrong in itertools.permutations((one, two, three, four)):
            if wrong != through(2):
                self.assertIs(is_table(2, wrong), False)
        self.assertIs(is_table(2, (one, one, three, four)), False)

    def test_each_two_neighbouring_legs_count(self):
        # Each of these has every pair of letters just once at three of the four pairs of neighbours.
        spoiled_at = {
            0: ((0, 0, 0, 0), (0, 0, 1, 1), (1, 1, 0, 1), (1, 1, 1, 0)),
            1: ((0, 0, 0, 0), (0, 1, 1, 1), (1, 0, 0, 1), (1, 1, 1, 0)),
            2: ((0, 0, 0, 0), (0, 1, 1, 1), (1, 0, 1, 1), (1, 1, 0, 0)),
            3: ((0, 0, 0, 0), (0, 1, 1, 0), (1, 0, 1, 1), (1, 1, 0, 1)),
        }
        for leg, quads in spoiled_at.items():
            for k in range(4):
                pairs = {(quad[k], quad[(k + 1) % 4]) for quad in quads}
                self.assertEqual(len(pairs) == 4, k != leg)
            self.assertIs(is_table(2, quads), False)

    def test_by_the_words_over_all_sets_of_four_quads(self):
        quads = list(itertools.product(range(2), repeat=4))
        found = []
        for four in itertools.combinations(quads, 4):
            pairs = [sorted((quad[k], quad[(k + 1) % 4]) for quad in four) for k in range(4)]
            so = all(row == [(0, 0), (0, 1), (1, 0), (1, 1)] for row in pairs)
            self.assertIs(is_table(2, four), so)
            if so:
                found.append(four)
        self.assertEqual(tables_of_two(), tuple(sorted(found)))

    def test_one_to_twelve_tables(self):
        for many in range(15):
            self.assertIs(is_tables(3, (through(3),) * many), 1 <= many <= 12)
        for thing in ODD_THINGS:
            self.assertIs(is_tables(2, thing), False)
        self.assertIs(is_tables(2, (through(2), through(3))), False)


class QuadBy(unittest.TestCase):
    def test_each_quad_from_each_leg(self):
        for q in range(2, 8):
            for table in some_tables(q):
                for quad in table:
                    for leg in range(4):
                        self.assertEqual(quad_by(table, leg, quad[leg], quad[(leg + 1) % 4]), quad)

    def test_the_last_leg_goes_with_the_first(self):
        table = mixed(3)
        self.assertEqual(quad_by(table, 0, 1, 2), (1, 2, 0, 2))
        self.assertEqual(quad_by(table, 1, 2, 0), (1, 2, 0, 2))
        self.assertEqual(quad_by(table, 2, 0, 2), (1, 2, 0, 2))
        self.assertEqual(quad_by(table, 3, 2, 1), (1, 2, 0, 2))


class Made(unittest.TestCase):
    def test_turned_and_flipped_quad_by_quad(self):
        for q in range(2, 8):
            for table in some_tables(q):
                self.assertEqual(turned(table), tuple(sorted((h, l, w, r) for l, w, r, h in table)))
                self.assertEqual(flipped(table), tuple(sorted((r, w, l, h) for l, w, r, h in table)))
                self.assertTrue(is_table(q, turned(table)))
                self.assertTrue(is_table(q, flipped(table)))

    def test_four_turns_and_two_flips_are_none(self):
        for q in range(2, 8):
            for table in some_tables(q):
                self.assertEqual(turned(turned(turned(turned(table)))), table)
                self.assertEqual(flipped(flipped(table)), table)

    def test_turned_and_flipped_written_out(self):
        table = ((0, 0, 0, 0), (0, 1, 1, 1), (1, 0, 1, 0), (1, 1, 0, 1))
        self.assertEqual(turned(table), ((0, 0, 0, 0), (0, 1, 0, 1), (1, 0, 1, 1), (1, 1, 1, 0)))
        skew = tuple(sorted((l, w, (l + 1) % 3, w) for l in range(3) for w in range(3)))
        self.assertEqual(flipped(skew), tuple(sorted((l, w, (l + 2) % 3, w) for l in range(3) for w in range(3))))

    def test_through(self):
        self.assertEqual(through(2), ((0, 0, 0, 0), (0, 1, 0, 1), (1, 0, 1, 0), (1, 1, 1, 1)))
        for q in range(2, 8):
            self.assertTrue(is_table(q, through(q)))
            self.assertTrue(all(l == r and w == h for l, w, r, h in through(q)))

    def test_pushed_and_lifted(self):
        turns = ((0, 1), (1, 0))
        self.assertEqual(pushed(2, turns), ((0, 0, 0, 0), (0, 1, 1, 1), (1, 0, 1, 0), (1, 1, 0, 1)))
        self.assertEqual(lifted(2, turns), ((0, 0, 0, 0), (0, 1, 0, 1), (1, 0, 1, 1), (1, 1, 1, 0)))
        for q in range(2, 8):
            turns = orders(q)
            self.assertTrue(is_table(q, pushed(q, turns)))
            self.assertTrue(is_table(q, lifted(q, turns)))
            for l, w, r, h in pushed(q, turns):
                self.assertEqual((r, h), (turns[w][l], w))
            for l, w, r, h in lifted(q, turns):
                self.assertEqual((r, h), (l, turns[l][w]))

    def test_tables_of_two(self):
        tables = tables_of_two()
        self.assertIsInstance(tables, tuple)
        self.assertEqual(len(tables), 12)
        self.assertEqual(list(tables), sorted(set(tables)))
        for table in tables:
            self.assertTrue(is_table(2, table))


if __name__ == "__main__":
    unittest.main()
