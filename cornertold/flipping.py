"""Flipped: right and left are exchanged."""

from cornertold.tables import flipped


def flip(plan):
    """The plan flipped; tables keep their numbers."""
    q, tables, a, rows = plan
    return (q, tuple([flipped(table) for table in tables]), a, tuple([row[::-1] for row in rows]))


def flip_wire(a, b, wire):
    """Where that wire of that size comes to."""
    word, number, place = wire
    if word == "row":
        return ("row", number, a - place)
    return ("column", a - 1 - number, place)


def flip_sheet(sheet):
    """The sheet flipped."""
    rows, columns = sheet
    return (tuple([row[::-1] for row in rows]), columns[::-1])


def flip_pick(a, b, pick):
    """The pick of that size flipped."""
    xs, ys = pick
    return (tuple([a - x for x in xs]), ys[::-1])
