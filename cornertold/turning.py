"""Turned by a quarter: what went right goes up, what went up goes left."""

from cornertold.tables import turned


def quarter(plan):
    """The plan turned by a quarter; tables keep their numbers."""
    q, tables, a, rows = plan
    led = tuple([tuple([row[i] for row in reversed(rows)]) for i in range(a)])
    return (q, tuple([turned(table) for table in tables]), len(rows), led)


def quarter_wire(a, b, wire):
    """Where that wire of that size comes to."""
    word, number, place = wire
    if word == "row":
        return ("column", b - 1 - number, place)
    return ("row", number, b - place)


def quarter_sheet(sheet):
    """The sheet turned by a quarter."""
    rows, columns = sheet
    return (tuple([column[::-1] for column in columns]), rows[::-1])


def quarter_pick(a, b, pick):
    """The pick of that size turned by a quarter."""
    xs, ys = pick
    return (tuple([b - y for y in ys]), xs[::-1])
