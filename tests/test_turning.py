"""Promise 19: plans, wires, sheets and picks turned by a quarter."""

import unittest

from cornertold.picks import is_pick, picked
from cornertold.plans import is_plan, size, table_at
from cornertold.sheets import is_sheet, letter
from cornertold.tables import pushed, through, turned
from cornertold.turning import quarter, quarter_pick, quarter_sheet, quarter_wire
from cornertold.wires import legs, wires
from tests.samples import FORTY_SIZES, SIZES, all_picks, some_pick, some_plan, some_sheet

ALL_SIZES = SIZES + FORTY_SIZES
STRAIGHT, PUSHED = through(2), pushed(2, ((0, 1), (1, 0)))


def four_times(led, thing, a, b):
    """The thing led along four times, with the size of each time."""
    for width, height in ((a, b), (b, a), (a, b), (b, a)):
        thing = led(width, height, thing)
    return thing


class Wires(unittest.TestCase):
    def test_the_words(self):
        self.assertEqual(quarter_wire(4, 3, ("row", 0, 0)), ("column", 2, 0))
        self.assertEqual(quarter_wire(4, 3, ("row", 2, 4)), ("column", 0, 4))
        self.assertEqual(quarter_wire(4, 3, ("row", 1, 3)), ("column", 1, 3))
        self.assertEqual(quarter_wire(4, 3, ("column", 0, 0)), ("row", 0, 3))
        self.assertEqual(quarter_wire(4, 3, ("column", 3, 1)), ("row", 3, 2))

    def test_without_threads_across(self):
        self.assertEqual(quarter_wire(0, 3, ("row", 0, 0)), ("column", 2, 0))
        self.assertEqual(quarter_wire(3, 0, ("column", 1, 0)), ("row", 1, 0))

    def test_each_comes_to_a_wire_of_its_own(self):
        for a, b in ALL_SIZES:
            led = [quarter_wire(a, b, wire) for wire in wires(a, b)]
            self.assertEqual(tuple(sorted(led)), wires(b, a))

    def test_legs_come_to_the_next_legs_of_the_crossing_led_along(self):
        for a, b in SIZES:
            for i in range(a):
                for j in range(b):
                    there = legs(b - 1 - j, i)
                    for leg, wire in enumerate(legs(i, j)):
                        self.assertEqual(quarter_wire(a, b, wire), there[(leg + 1) % 4])

    def test_four_quarters_come_back(self):
        for a, b in ALL_SIZES:
            for wire in wires(a, b):
                self.assertEqual(four_times(quarter_wire, wire, a, b), wire)


class Plans(unittest.TestCase):
    def test_the_words(self):
        plan = (2, (STRAIGHT, PUSHED), 3, ((0, 0, 1), (1, 0, 0)))
        self.assertEqual(
            quarter(plan), (2, (turned(STRAIGHT), turned(PUSHED)), 2, ((1, 0), (0, 0), (0, 1))))

    def test_no_columns_no_rows_neither(self):
        tables = (PUSHED,)
        led = (turned(PUSHED),)
        self.assertEqual(quarter((2, tables, 0, ())), (2, led, 0, ()))
        self.assertEqual(quarter((2, tables, 3, ())), (2, led, 0, ((), (), ())))
        self.assertEqual(quarter((2, tables, 0, ((), ()))), (2, led, 2, ()))

    def test_alike_tables_and_unused_ones_keep_their_numbers(self):
        tables = (PUSHED, STRAIGHT, PUSHED, turned(PUSHED))
        plan = (2, tables, 2, ((2, 0), (3, 2)))
        self.assertEqual(quarter(plan)[1], tuple([turned(table) for table in tables]))
        self.assertEqual(quarter(plan)[3], ((3, 2), (2, 0)))

    def test_crossings_and_tables_are_led_along(self):
        for a, b in ALL_SIZES:
            plan = some_plan(3, a, b, seed=a + 2 * b)
            led = quarter(plan)
            self.assertIs(is_plan(led), True)
            self.assertEqual(size(led), (b, a))
            for i in range(a):
                for j in range(b):
                    self.assertEqual(led[3][i][b - 1 - j], plan[3][j][i])
            for i, j in [(i, j) for i in range(a) for j in range(b)][::7]:
                self.assertEqual(table_at(led, b - 1 - j, i), turned(table_at(plan, i, j)))

    def test_four_quarters_come_back(self):
        for q in range(2, 8):
            for a, b in SIZES:
                plan = some_plan(q, a, b, seed=q)
                self.assertEqual(quarter(quarter(quarter(quarter(plan)))), plan)


class Sheets(unittest.TestCase):
    def test_the_words(self):
        sheet = (((0, 1, 2), (3, 4, 5)), ((6, 7, 8), (9, 10, 11)))
        self.assertEqual(quarter_sheet(sheet), (((8, 7, 6), (11, 10, 9)), ((3, 4, 5), (0, 1, 2))))

    def test_no_columns_no_rows_neither(self):
        self.assertEqual(quarter_sheet(((), ())), ((), ()))
        self.assertEqual(quarter_sheet((((1,), (2,)), ())), ((), ((2,), (1,))))
        self.assertEqual(quarter_sheet(((), ((1,), (2,)))), (((1,), (2,)), ()))

    def test_wire_by_wire(self):
        for a, b in ALL_SIZES:
            sheet = some_sheet(7, a, b, seed=b)
            led = quarter_sheet(sheet)
            self.assertIs(is_sheet(7, b, a, led), True)
            for wire in wires(a, b):
                self.assertEqual(letter(led, quarter_wire(a, b, wire)), letter(sheet, wire))
            self.assertEqual(quarter_sheet(quarter_sheet(quarter_sheet(led))), sheet)


class Picks(unittest.TestCase):
    def test_the_words(self):
        self.assertEqual(quarter_pick(3, 2, ((0, 3), (2, 1, 0))), ((0, 1, 2), (3, 0)))

    def test_no_columns_no_rows_neither(self):
        self.assertEqual(quarter_pick(0, 0, ((), ())), ((), ()))
        self.assertEqual(quarter_pick(0, 2, ((0, 0), ())), ((), (0, 0)))
        self.assertEqual(quarter_pick(2, 0, ((), (0, 0))), ((0, 0), ()))

    def look_at(self, a, b, pick):
        led = quarter_pick(a, b, pick)
        self.assertIs(is_pick(b, a, led), True)
        self.assertEqual(picked(led), tuple(sorted([quarter_wire(a, b, wire) for wire in picked(pick)])))
        self.assertEqual(four_times(quarter_pick, pick, a, b), pick)

    def test_wire_by_wire(self):
        for a, b in ((0, 0), (0, 2), (2, 0), (1, 1), (2, 1), (1, 2), (2, 2), (3, 2)):
            for pick in all_picks(a, b):
                self.look_at(a, b, pick)
        for a, b in ALL_SIZES:
            self.look_at(a, b, some_pick(a, b, a + b))


if __name__ == "__main__":
    unittest.main()
