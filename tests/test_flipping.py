"""Promise 19: plans, wires, sheets and picks flipped, and flipped and turned."""

import unittest

from cornertold.flipping import flip, flip_pick, flip_sheet, flip_wire
from cornertold.picks import is_pick, picked
from cornertold.plans import is_plan, size, table_at
from cornertold.sheets import is_sheet, letter
from cornertold.tables import flipped, lifted, pushed, through
from cornertold.turning import quarter, quarter_pick, quarter_sheet, quarter_wire
from cornertold.wires import legs, wires
from tests.samples import FORTY_SIZES, SIZES, all_picks, mixed, some_pick, some_plan, some_sheet

ALL_SIZES = SIZES + FORTY_SIZES
LIFTED, PUSHED = lifted(3, ((1, 2, 0), (0, 1, 2), (2, 1, 0))), pushed(3, ((1, 2, 0), (0, 1, 2), (2, 1, 0)))


def three_quarters(led, a, b, thing):
    """The thing of that size led along three times, with the size of each time."""
    return led(a, b, led(b, a, led(a, b, thing)))


class Wires(unittest.TestCase):
    def test_the_words(self):
        self.assertEqual(flip_wire(4, 3, ("row", 0, 0)), ("row", 0, 4))
        self.assertEqual(flip_wire(4, 3, ("row", 2, 3)), ("row", 2, 1))
        self.assertEqual(flip_wire(4, 3, ("column", 0, 1)), ("column", 3, 1))
        self.assertEqual(flip_wire(4, 3, ("column", 2, 3)), ("column", 1, 3))

    def test_without_threads_across(self):
        self.assertEqual(flip_wire(0, 3, ("row", 1, 0)), ("row", 1, 0))
        self.assertEqual(flip_wire(3, 0, ("column", 0, 0)), ("column", 2, 0))

    def test_each_comes_to_a_wire_of_its_own_and_back(self):
        for a, b in ALL_SIZES:
            led = [flip_wire(a, b, wire) for wire in wires(a, b)]
            self.assertEqual(tuple(sorted(led)), wires(a, b))
            self.assertEqual(tuple([flip_wire(a, b, wire) for wire in led]), wires(a, b))

    def test_left_and_right_legs_are_exchanged(self):
        for a, b in SIZES:
            for i in range(a):
                for j in range(b):
                    left, low, right, high = legs(a - 1 - i, j)
                    led = [flip_wire(a, b, wire) for wire in legs(i, j)]
                    self.assertEqual(led, [right, low, left, high])


class Plans(unittest.TestCase):
    def test_the_words(self):
        plan = (3, (LIFTED, PUSHED, mixed(3)), 3, ((0, 1, 1), (2, 0, 1)))
        led = tuple([flipped(table) for table in plan[1]])
        self.assertEqual(flip(plan), (3, led, 3, ((1, 1, 0), (1, 0, 2))))

    def test_no_columns_no_rows_neither(self):
        tables, led = (mixed(3),), (flipped(mixed(3)),)
        self.assertEqual(flip((3, tables, 0, ())), (3, led, 0, ()))
        self.assertEqual(flip((3, tables, 3, ())), (3, led, 3, ()))
        self.assertEqual(flip((3, tables, 0, ((), ()))), (3, led, 0, ((), ())))

    def test_alike_tables_and_unused_ones_keep_their_numbers(self):
        tables = (PUSHED, through(3), PUSHED, flipped(PUSHED), LIFTED)
        plan = (3, tables, 2, ((2, 0), (3, 2)))
        self.assertEqual(flip(plan)[1], tuple([flipped(table) for table in tables]))
        self.assertEqual(flip(plan)[3], ((0, 2), (2, 3)))

    def test_crossings_and_tables_are_led_along(self):
        for a, b in ALL_SIZES:
            plan = some_plan(3, a, b, seed=a + 2 * b)
            led = flip(plan)
            self.assertIs(is_plan(led), True)
            self.assertEqual(size(led), (a, b))
            for i in range(a):
                for j in range(b):
                    self.assertEqual(led[3][j][a - 1 - i], plan[3][j][i])
            for i, j in [(i, j) for i in range(a) for j in range(b)][::7]:
                self.assertEqual(table_at(led, a - 1 - i, j), flipped(table_at(plan, i, j)))
            self.assertEqual(flip(led), plan)


class Sheets(unittest.TestCase):
    def test_the_words(self):
        sheet = (((0, 1, 2), (3, 4, 5)), ((6, 7, 8), (9, 10, 11)))
        self.assertEqual(flip_sheet(sheet), (((2, 1, 0), (5, 4, 3)), ((9, 10, 11), (6, 7, 8))))

    def test_no_columns_no_rows_neither(self):
        self.assertEqual(flip_sheet(((), ())), ((), ()))
        self.assertEqual(flip_sheet((((1,), (2,)), ())), (((1,), (2,)), ()))
        self.assertEqual(flip_sheet(((), ((1,), (2,)))), ((), ((2,), (1,))))

    def test_wire_by_wire(self):
        for a, b in ALL_SIZES:
            sheet = some_sheet(7, a, b, seed=b)
            led = flip_sheet(sheet)
            self.assertIs(is_sheet(7, a, b, led), True)
            for wire in wires(a, b):
                self.assertEqual(letter(led, flip_wire(a, b, wire)), letter(sheet, wire))
            self.assertEqual(flip_sheet(led), sheet)


class Picks(unittest.TestCase):
    def test_the_words(self):
        self.assertEqual(flip_pick(3, 2, ((0, 3), (2, 1, 0))), ((3, 0), (0, 1, 2)))

    def test_no_columns_no_rows_neither(self):
        self.assertEqual(flip_pick(0, 0, ((), ())), ((), ()))
        self.assertEqual(flip_pick(0, 2, ((0, 0), ())), ((0, 0), ()))
        self.assertEqual(flip_pick(2, 0, ((), (0, 0))), ((), (0, 0)))

    def look_at(self, a, b, pick):
        led = flip_pick(a, b, pick)
        self.assertIs(is_pick(a, b, led), True)
        self.assertEqual(picked(led), tuple(sorted([flip_wire(a, b, wire) for wire in picked(pick)])))
        self.assertEqual(flip_pick(a, b, led), pick)

    def test_wire_by_wire(self):
        for a, b in ((0, 0), (0, 2), (2, 0), (1, 1), (2, 1), (1, 2), (2, 2), (3, 2)):
            for pick in all_picks(a, b):
                self.look_at(a, b, pick)
        for a, b in ALL_SIZES:
            self.look_at(a, b, some_pick(a, b, a + b))


class FlippedBehindTurned(unittest.TestCase):
    """A flip behind a quarter is three quarters behind a flip."""

    def test_wires_and_picks(self):
        for a, b in ALL_SIZES:
            for wire in wires(a, b):
                self.assertEqual(flip_wire(b, a, quarter_wire(a, b, wire)),
                                 three_quarters(quarter_wire, a, b, flip_wire(a, b, wire)))
            for seed in range(5):
                pick = some_pick(a, b, seed)
                self.assertEqual(flip_pick(b, a, quarter_pick(a, b, pick)),
                                 three_quarters(quarter_pick, a, b, flip_pick(a, b, pick)))

    def test_plans_and_sheets(self):
        for q in range(2, 8):
            for a, b in SIZES + ((40, 7),):
                plan, sheet = some_plan(q, a, b, seed=q), some_sheet(q, a, b, seed=q)
                self.assertEqual(flip(quarter(plan)), quarter(quarter(quarter(flip(plan)))))
                self.assertEqual(flip_sheet(quarter_sheet(sheet)),
                                 quarter_sheet(quarter_sheet(quarter_sheet(flip_sheet(sheet)))))

    def test_a_quarter_is_no_flip(self):
        plan, sheet = some_plan(3, 2, 2, seed=4), some_sheet(3, 2, 2)
        self.assertNotEqual(flip(quarter(plan)), quarter(flip(plan)))
        self.assertNotEqual(flip_sheet(quarter_sheet(sheet)), quarter_sheet(flip_sheet(sheet)))


if __name__ == "__main__":
    unittest.main()
