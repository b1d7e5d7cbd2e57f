"""Sheets and cloths: letters on all wires."""

from cornertold.kinds import is_block, is_tuple_of
from cornertold.plans import size, table_at


def is_sheet(q, a, b, thing):
    """Whether it is a sheet of q letters of that size, of anything as thing."""
    if not is_tuple_of(thing, 2):
        return False
    rows, columns = thing
    return is_block(rows, b, a + 1, q - 1) and is_block(columns, a, b + 1, q - 1)


def is_cloth(plan, thing):
    """Whether it is a cloth of that plan, of anything as thing."""
    a, b = size(plan)
    if not is_sheet(plan[0], a, b, thing):
        return False
    return all([has_quad(plan, thing, i, j) for i in range(a) for j in range(b)])


def has_quad(plan, sheet, i, j):
    """Whether the letters of the sheet at the legs of crossing (i, j) are a quad of its table."""
    rows, columns = sheet
    quad = (rows[j][i], columns[i][j], rows[j][i + 1], columns[i][j + 1])
    return quad in table_at(plan, i, j)


def letter(sheet, wire):
    """The letter of the sheet on that wire."""
    word, number, place = wire
    return thread_of(sheet, word, number)[place]


def thread_of(sheet, word, number):
    """The letters of the sheet on that thread."""
    rows, columns = sheet
    return rows[number] if word == "row" else columns[number]


def sheet_of(a, b, held):
    """The sheet of that size, from a dict of the letters by their wires."""
    rows = tuple([tuple([held[("row", j, x)] for x in range(a + 1)]) for j in range(b)])
    columns = tuple([tuple([held[("column", i, y)] for y in range(b + 1)]) for i in range(a)])
    return (rows, columns)
