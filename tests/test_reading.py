"""Promises 24 and 25: texts read as they were written, and the first row that can't stand there."""

import re
import unittest

from cornertold.closing import is_holed
from cornertold.errors import NoText
from cornertold.plans import is_plan
from cornertold.reading import read_known, read_pick, read_plan, read_sheet, read_table
from cornertold.showing import show_known, show_pick, show_plan, show_sheet, show_table
from cornertold.tables import is_table, pushed, tables_of_two, through
from cornertold.wires import wires
from tests.samples import (
    FORTY_SIZES, ODD_THINGS, SIZES, all_picks, by_parts, by_signs, changed, moving_plan, moving_tables, some_known,
    some_pick, some_plan, some_sheet)

NUMBER = "(?:0|[1-9][0-9]*)"
HEAD = "letters 2\ntable 0000 0101 1010 1111\n"
NO_TEXTS = tuple([thing for thing in ODD_THINGS if not isinstance(thing, str)])


def spoilt_texts(text, others=()):
    """The text spoilt in all these ways; some of these may stand."""
    words = ("00", "01", "-", "--", "", "/", "row", "column", "1" * 30, "1" * 31, "+1", "-1", "1.0", "0x1", "1_0")
    yield from by_signs(text)
    yield from by_parts(text, " ", words)
    yield from by_parts(text, "\n", others + ("", " ", "row", "row 0", "column 0", "table", "columns 0", "letters 2", "/"))
    yield text.upper()
    yield text.replace("\n", "\r\n")
    yield text.replace(" ", "  ")
    yield text + "\n"
    yield "\n" + text
    yield " " + text
    yield text + " "
    yield text + text
    yield ""


def wrong_row(rows, can_stand, are_all):
    """The number of the first row that can't stand behind those ahead, how many there are where some lack, or None."""
    for at in range(len(rows)):
        if not can_stand(rows[:at], rows[at]):
            return at
    return None if are_all(rows) else len(rows)


def rows_of(text):
    return text.split("\n") if text else []


def quads_of(text):
    return tuple([tuple([int(sign) for sign in word]) for word in text.split(" ")])


def plan_row_can_stand(ahead, row):
    """By the words of the document alone, with patterns."""
    tables = [line for line in ahead if line.startswith("table")]
    columns = [line for line in ahead if line.startswith("columns")]
    if not ahead:
        return re.fullmatch("letters [2-7]", row) is not None
    q = int(ahead[0].split(" ")[1])
    if columns:
        a = int(columns[0].split(" ")[1])
        found = re.fullmatch("row((?: %s){%d})" % (NUMBER, a), row)
        return (found is not None and len(ahead) - len(tables) - 2 < 40
                and all(int(word) < len(tables) for word in found.group(1).split()))
    if re.fullmatch("table(?: [0-9]{4})+", row):
        return len(tables) < 12 and is_table(q, quads_of(row[len("table "):]))
    found = re.fullmatch("columns (%s)" % NUMBER, row)
    return found is not None and len(tables) > 0 and int(found.group(1)) <= 40


class Reading(unittest.TestCase):
    def look_at(self, read, show, expected, text):
        """The text is read as its row says; what is read is shown again sign for sign."""
        if expected is None:
            self.assertEqual(show(read(text)), text)
            return
        with self.assertRaises(NoText) as caught:
            read(text)
        self.assertEqual((type(caught.exception.row), caught.exception.row), (int, expected), repr(text))

    def refused(self, row, read, *arguments):
        with self.assertRaises(NoText) as caught:
            read(*arguments)
        self.assertEqual((type(caught.exception.row), caught.exception.row), (int, row))


class Tables(Reading):
    def test_read_as_written(self):
        for q in range(2, 8):
            for table in moving_tables(q):
                self.assertEqual(read_table(q, show_table(table)), table)
        for table in tables_of_two():
            self.assertEqual(read_table(text=show_table(table), q=2), table)

    def test_spoilt(self):
        for q, table in ((2, through(2)), (2, pushed(2, ((0, 1), (1, 0)))), (3, moving_tables(3)[4])):
            so = show_table(table)
            for text in list(spoilt_texts(so)) + [so + "\n" + so, so.replace(" ", "\n"), " ".join(so.split(" ")[::-1])]:
                row = text.split("\n")[0]
                right = re.fullmatch("[0-9]{4}(?: [0-9]{4})*", row) is not None and is_table(q, quads_of(row))
                expected = 0 if not right else 1 if "\n" in text else None
                self.look_at(lambda given: read_table(q, given), show_table, expected, text)

    def test_of_other_letters(self):
        self.refused(0, read_table, 3, show_table(through(2)))
        self.refused(0, read_table, 2, show_table(through(3)))

    def test_no_text_at_all(self):
        for thing in NO_TEXTS + (through(2), [show_table(through(2))], show_table(through(2)).encode()):
            self.refused(0, read_table, 2, thing)


class Plans(Reading):
    def test_read_as_written(self):
        for q in range(2, 8):
            for a, b in SIZES + FORTY_SIZES[q - 2:q - 1]:
                for plan in (some_plan(q, a, b, seed=q), moving_plan(q, a, b, many=12), moving_plan(q, a, b, many=1)):
                    text = show_plan(plan)
                    self.assertEqual(read_plan(text), plan)
                    self.assertEqual(show_plan(read_plan(text=text)), text)

    def test_spoilt(self):
        table = "table 0000 0101 1010 1111"
        others = (table, "table 0000 0111 1010 1101", "table " + show_table(through(3)), "row 0 0", "row 0 2", "row 1 1 1",
                  "columns 2", "columns 41", "columns", "letters 3", "letters 8", "letters 1", "table 0000")
        for plan in ((2, (through(2), pushed(2, ((0, 1), (1, 0)))), 2, ((0, 1), (1, 1), (0, 0))),
                     (2, (through(2),), 0, ((), ())), (2, (through(2),), 3, ()), (3, (through(3),), 1, ((0,),))):
            for text in spoilt_texts(show_plan(plan), others):
                expected = wrong_row(rows_of(text), plan_row_can_stand,
                                     lambda rows: any(row.startswith("columns") for row in rows))
                self.look_at(read_plan, show_plan, expected, text)

    def test_rows_that_lack(self):
        lines = show_plan((2, (through(2),) * 2, 2, ((0, 1),))).split("\n")
        for many in range(4):
            self.refused(many, read_plan, "\n".join(lines[:many]))
        self.assertEqual(read_plan("\n".join(lines[:4])), (2, (through(2),) * 2, 2, ()))

    def test_the_first_row_of_several(self):
        self.refused(0, read_plan, "letters 8\ntable\ncolumns 41\nrow -")
        self.refused(1, read_plan, "letters 2\ntable\ncolumns 41\nrow -")
        self.refused(2, read_plan, HEAD + "columns 41\nrow -")
        self.refused(3, read_plan, HEAD + "columns 1\nrow -\nrow 0")
        self.refused(4, read_plan, HEAD + "columns 1\nrow 0\nrow 1\nrow 0\n")
        self.refused(1, read_plan, "letters 2\ncolumns 1\nrow 0")
        self.refused(2, read_plan, HEAD + "row 0\ncolumns 1")
        self.refused(3, read_plan, HEAD + "columns 1\n" + HEAD)
        self.refused(1, read_plan, "letters 3\n" + HEAD.split("\n")[1] + "\ncolumns 0")

    def test_at_the_bounds_and_beyond(self):
        table = "table 0000 0101 1010 1111\n"
        twelve = "letters 2\n" + table * 12
        self.assertIs(is_plan(read_plan(twelve + "columns 40" + ("\nrow" + " 11" * 40) * 40)), True)
        self.refused(13, read_plan, twelve + table + "columns 0")
        self.refused(13, read_plan, twelve + "columns 41")
        self.refused(14 + 40, read_plan, twelve + "columns 40" + ("\nrow" + " 11" * 40) * 41)
        self.refused(14 + 40, read_plan, twelve + "columns 0" + "\nrow" * 41)
        self.refused(14, read_plan, twelve + "columns 40" + ("\nrow" + " 12" * 40) * 40)
        self.refused(14, read_plan, twelve + "columns 40" + ("\nrow" + " 11" * 41) * 40)
        self.refused(14 + 39, read_plan, twelve + "columns 40" + ("\nrow" + " 11" * 40) * 39 + "\nrow" + " 11" * 39)
        for figures in ("1" + "0" * 29, "1" + "0" * 30, "9" * 5000, "0" * 30):
            self.refused(13, read_plan, twelve + "columns " + figures)
            self.refused(0, read_plan, "letters " + figures)
            self.refused(14, read_plan, twelve + "columns 1\nrow " + figures)

    def test_no_text_at_all(self):
        plan = moving_plan(2, 2, 2)
        for thing in NO_TEXTS + (plan, [show_plan(plan)], show_plan(plan).encode(), show_plan(plan).split("\n")):
            self.refused(0, read_plan, thing)
        self.refused(0, read_plan, "")


class Sheets(Reading):
    def test_read_as_written(self):
        for q in range(2, 8):
            for a, b in SIZES + FORTY_SIZES[q - 2:q - 1]:
                sheet = some_sheet(q, a, b, seed=q)
                holed = sheet
                for wire in wires(a, b)[::3]:
                    holed = changed(holed, wire, None)
                for given in (sheet, holed):
                    text = show_sheet(given)
                    self.assertEqual(read_sheet(q, a, b, text), given)
                    self.assertEqual(show_sheet(read_sheet(text=text, b=b, a=a, q=q)), text)
                    self.assertIs(is_holed(q, a, b, given), True)

    def test_the_empty_text(self):
        self.assertEqual(read_sheet(2, 0, 0, ""), ((), ()))
        self.refused(0, read_sheet, 2, 0, 1, "")
        self.refused(0, read_sheet, 2, 1, 0, "")
        for text in ("\n", " ", "row", "row 0", "column", "-"):
            self.refused(0, read_sheet, 2, 0, 0, text)

    def test_spoilt(self):
        for q, a, b in ((2, 2, 1), (3, 1, 2), (2, 0, 2), (2, 2, 0), (7, 1, 1), (2, 0, 0)):
            sheet = some_sheet(q, a, b)
            if a * b > 0:
                sheet = changed(sheet, ("row", 0, 1), None)
            patterns = [r"row(?: [0-%d]| -){%d}" % (q - 1, a + 1)] * b + [
                r"column(?: [0-%d]| -){%d}" % (q - 1, b + 1)] * a
            for text in spoilt_texts(show_sheet(sheet), ("row 0 0", "row - -", "column 0 0", "row 1 1 1")):
                expected = wrong_row(
                    rows_of(text),
                    lambda ahead, row: len(ahead) < a + b and re.fullmatch(patterns[len(ahead)], row) is not None,
                    lambda rows: len(rows) == a + b)
                self.look_at(lambda given: read_sheet(q, a, b, given), show_sheet, expected, text)

    def test_rows_that_lack_and_rows_too_many(self):
        lines = show_sheet(some_sheet(3, 2, 3)).split("\n")
        for many in range(5):
            self.refused(many, read_sheet, 3, 2, 3, "\n".join(lines[:many]))
        self.refused(5, read_sheet, 3, 2, 3, "\n".join(lines + lines[-1:]))
        self.refused(5, read_sheet, 3, 2, 3, "\n".join(lines + [""]))
        self.refused(3, read_sheet, 3, 2, 3, "\n".join(lines[:3] + lines[2:]))

    def test_of_other_letters_or_another_size(self):
        text = show_sheet((((0, 1), (2, 0)), ((0, 1, 0),)))
        self.assertEqual(read_sheet(3, 1, 2, text), (((0, 1), (2, 0)), ((0, 1, 0),)))
        self.refused(1, read_sheet, 2, 1, 2, text)
        self.refused(0, read_sheet, 3, 2, 1, text)
        self.refused(0, read_sheet, 3, 2, 2, text)
        self.refused(2, read_sheet, 3, 1, 3, text)

    def test_no_text_at_all(self):
        for thing in NO_TEXTS + (((), ()), ["row 0"], b"row 0"):
            self.refused(0, read_sheet, 2, 0, 1, thing)
            self.refused(0, read_sheet, 2, 0, 0, thing)


class Known(Reading):
    def test_read_as_written(self):
        for a, b in SIZES + FORTY_SIZES:
            for seed in range(8):
                known = some_known(a, b, seed)
                text = show_known(known)
                self.assertEqual(read_known(a, b, text), known)
                self.assertEqual(show_known(read_known(text=text, b=b, a=a)), text)
            self.assertEqual(read_known(a, b, "-"), ())
            self.assertEqual(read_known(a, b, show_known(wires(a, b))), wires(a, b))

    def is_right(self, a, b, row):
        wire = "(?:row|column) %s %s" % (NUMBER, NUMBER)
        if row == "-":
            return True
        if re.fullmatch("%s(?:, %s)*" % (wire, wire), row) is None:
            return False
        found = [(part.split()[0], int(part.split()[1]), int(part.split()[2])) for part in row.split(", ")]
        return all(one in wires(a, b) for one in found) and sorted(set(found)) == found

    def test_spoilt(self):
        for known in ((("column", 0, 1), ("column", 1, 0), ("row", 0, 2), ("row", 2, 0)), (("row", 1, 1),), ()):
            so = show_known(known)
            texts = list(spoilt_texts(so)) + list(by_parts(so, ", ", ("row 0 0", "row 3 0", "row 0 3", "-", "", " row 0 0")))
            for text in texts + [so.replace(", ", ","), so.replace(", ", " , "), so.replace(", ", "\n"), so + "\n" + so]:
                rows = rows_of(text)
                right = len(rows) > 0 and self.is_right(2, 3, rows[0])
                expected = 0 if not right else 1 if len(rows) > 1 else None
                self.look_at(lambda given: read_known(2, 3, given), show_known, expected, text)

    def test_wires_that_are_not_there(self):
        for text in ("row 0 0", "column 0 0"):
            self.refused(0, read_known, 0, 0, text)
        self.refused(0, read_known, 0, 1, "column 0 0")
        self.assertEqual(read_known(0, 1, "row 0 0"), (("row", 0, 0),))
        self.refused(0, read_known, 40, 40, "row 40 0")
        self.assertEqual(read_known(40, 40, "row 39 40"), (("row", 39, 40),))
        self.refused(0, read_known, 40, 40, "row 39 " + "9" * 30)

    def test_no_text_at_all(self):
        for thing in NO_TEXTS + ((("row", 0, 0),), ["row 0 0"], b"row 0 0", b"-"):
            self.refused(0, read_known, 1, 1, thing)


class Picks(Reading):
    def test_read_as_written(self):
        for a, b in ((0, 0), (0, 2), (2, 0), (1, 1), (2, 2), (1, 3)):
            for pick in all_picks(a, b):
                self.assertEqual(read_pick(a, b, show_pick(pick)), pick)
        for a, b in FORTY_SIZES:
            pick = some_pick(a, b, 3)
            self.assertEqual(read_pick(text=show_pick(pick), b=b, a=a), pick)

    def is_right(self, a, b, row):
        if re.fullmatch("(?:%s ){%d}/(?: %s){%d}" % (NUMBER, b, NUMBER, a), row) is None:
            return False
        xs, ys = row.split("/")
        return all(int(x) <= a for x in xs.split()) and all(int(y) <= b for y in ys.split())

    def test_spoilt(self):
        for pick in (((0, 2, 1), (3, 0)), ((1,), (0,)), ((), (0, 0)), ((0, 0), ()), ((), ())):
            a, b = len(pick[1]), len(pick[0])
            so = show_pick(pick)
            for text in list(spoilt_texts(so)) + [so + "\n" + so, so.replace(" ", ""), so.replace("/", "/ /")]:
                rows = rows_of(text)
                right = len(rows) > 0 and self.is_right(a, b, rows[0])
                expected = 0 if not right else 1 if len(rows) > 1 else None
                self.look_at(lambda given: read_pick(a, b, given), show_pick, expected, text)

    def test_of_another_size(self):
        self.refused(0, read_pick, 3, 2, "0 2 1 / 3 0")
        self.refused(0, read_pick, 2, 3, "0 3 1 / 3 0")
        self.refused(0, read_pick, 2, 3, "0 2 1 / 4 0")
        self.refused(0, read_pick, 0, 0, "")

    def test_no_text_at_all(self):
        for thing in NO_TEXTS + (((), ()), ["/"], b"/"):
            self.refused(0, read_pick, 0, 0, thing)


if __name__ == "__main__":
    unittest.main()
