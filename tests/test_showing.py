"""Promises 24 and 25: texts as they are written."""

import unittest

from cornertold.showing import show_known, show_pick, show_plan, show_sheet, show_table
from cornertold.tables import lifted, pushed, through
from cornertold.wires import wires
from tests.samples import moving_plan, some_sheet

EXCHANGE = pushed(2, ((0, 1), (1, 0)))


class Tables(unittest.TestCase):
    def test_quads_by_their_figures(self):
        self.assertEqual(show_table(through(2)), "0000 0101 1010 1111")
        self.assertEqual(show_table(EXCHANGE), "0000 0111 1010 1101")
        self.assertEqual(show_table(lifted(3, ((1, 2, 0), (0, 1, 2), (2, 1, 0)))),
                         "0001 0102 0200 1010 1111 1212 2022 2121 2220")
        self.assertTrue(show_table(through(7)).endswith(" 6565 6666"))


class Plans(unittest.TestCase):
    def test_letters_tables_columns_rows(self):
        plan = (2, (through(2), EXCHANGE, through(2)), 3, ((0, 1, 2), (2, 2, 0)))
        self.assertEqual(show_plan(plan), "\n".join([
            "letters 2", "table 0000 0101 1010 1111", "table 0000 0111 1010 1101", "table 0000 0101 1010 1111",
            "columns 3", "row 0 1 2", "row 2 2 0"]))

    def test_no_columns_no_rows_neither(self):
        head = "letters 2\ntable 0000 0101 1010 1111\n"
        self.assertEqual(show_plan((2, (through(2),), 0, ())), head + "columns 0")
        self.assertEqual(show_plan((2, (through(2),), 40, ())), head + "columns 40")
        self.assertEqual(show_plan((2, (through(2),), 0, ((), ()))), head + "columns 0\nrow\nrow")

    def test_numbers_of_two_figures(self):
        plan = (2, (through(2),) * 12, 3, ((0, 10, 11),))
        self.assertTrue(show_plan(plan).endswith("\ncolumns 3\nrow 0 10 11"))

    def test_at_the_bounds(self):
        lines = show_plan(moving_plan(7, 40, 40)).split("\n")
        self.assertEqual(len(lines), 1 + 12 + 1 + 40)
        self.assertEqual((lines[0], lines[13]), ("letters 7", "columns 40"))
        self.assertTrue(all(len(line.split(" ")) == 41 for line in lines[14:]))


class Sheets(unittest.TestCase):
    def test_rows_then_columns(self):
        self.assertEqual(show_sheet((((0, 1, 2), (3, 4, 5)), ((6, 0, 1), (2, 3, 4)))),
                         "row 0 1 2\nrow 3 4 5\ncolumn 6 0 1\ncolumn 2 3 4")

    def test_no_columns_no_rows_neither(self):
        self.assertEqual(show_sheet((((1,), (0,)), ())), "row 1\nrow 0")
        self.assertEqual(show_sheet(((), ((1,), (0,)))), "column 1\ncolumn 0")
        self.assertEqual(show_sheet(((), ())), "")

    def test_holes(self):
        self.assertEqual(show_sheet((((None, 1, None),), ((None, None), (0, None)))),
                         "row - 1 -\ncolumn - -\ncolumn 0 -")

    def test_of_forty(self):
        lines = show_sheet(some_sheet(7, 40, 40)).split("\n")
        self.assertEqual([line.split(" ")[0] for line in lines], ["row"] * 40 + ["column"] * 40)
        self.assertTrue(all(len(line) == len(line.split(" ")[0]) + 2 * 41 for line in lines))


class Known(unittest.TestCase):
    def test_wires_parted_by_commas(self):
        self.assertEqual(show_known((("column", 0, 1), ("column", 12, 40), ("row", 10, 0))),
                         "column 0 1, column 12 40, row 10 0")
        self.assertEqual(show_known((("row", 3, 4),)), "row 3 4")
        self.assertEqual(show_known(()), "-")
        self.assertEqual(len(show_known(wires(40, 40)).split(", ")), 2 * 40 * 41)


class Picks(unittest.TestCase):
    def test_xs_stroke_ys(self):
        self.assertEqual(show_pick(((0, 2, 1), (3, 10))), "0 2 1 / 3 10")
        self.assertEqual(show_pick(((0, 0), ())), "0 0 /")
        self.assertEqual(show_pick(((), (0,))), "/ 0")
        self.assertEqual(show_pick(((), ())), "/")


if __name__ == "__main__":
    unittest.main()
