"""Filling: cloths from the letters on a pick."""

from cornertold.orders import order
from cornertold.picks import comes, picked
from cornertold.plans import size
from cornertold.sheets import sheet_of
from cornertold.weaving import cross


def ends_at(sheet, pick):
    """The letters of the sheet at the pick's wires: row letters, column letters."""
    rows, columns = sheet
    xs, ys = pick
    return (letters_at(rows, xs), letters_at(columns, ys))


def letters_at(threads, places):
    """The letters of these threads, of each one at its place."""
    return tuple([thread[place] for thread, place in zip(threads, places)])


def filled(plan, pick, ends):
    """The cloth that has these letters at the pick's wires; Milled where the pick has a mill."""
    a, b = size(plan)
    row_letters, column_letters = ends
    crossings = order(pick)
    held = {wire: sign for wire, sign in zip(picked(pick), column_letters + row_letters)}
    for i, j in crossings:
        row_leg, column_leg = comes(pick, i, j)
        cross(plan, held, i, j, leg_ahead(row_leg, column_leg))
    return sheet_of(a, b, held)


def leg_ahead(row_leg, column_leg):
    """That one of two neighbouring legs behind which the other one is the next."""
    return row_leg if (row_leg + 1) % 4 == column_leg else column_leg
