"""Wires: the pieces of threads between crossings, and beyond the outermost ones."""

from cornertold.kinds import is_between, is_tuple_of


def is_wire(a, b, thing):
    """Whether it is a wire of that size, of anything as thing."""
    if not is_tuple_of(thing, 3):
        return False
    word, number, place = thing
    if not isinstance(word, str):
        return False
    if word == "row":
        return is_between(number, 0, b - 1) and is_between(place, 0, a)
    return word == "column" and is_between(number, 0, a - 1) and is_between(place, 0, b)


def wires(a, b):
    """All wires of that size, rising."""
    columns = [("column", i, y) for i in range(a) for y in range(b + 1)]
    rows = [("row", j, x) for j in range(b) for x in range(a + 1)]
    return tuple(columns + rows)


def legs(i, j):
    """The wires at crossing (i, j): left, low, right, high."""
    return (("row", j, i), ("column", i, j), ("row", j, i + 1), ("column", i, j + 1))


def is_crossing(a, b, thing):
    """Whether it is a crossing of that size, of anything as thing."""
    return is_tuple_of(thing, 2) and is_between(thing[0], 0, a - 1) and is_between(thing[1], 0, b - 1)


def crossings_at(a, b, wire):
    """The crossings of that size, none to two, of which this wire is a leg."""
    word, number, place = wire
    if word == "row":
        return [(i, number) for i in (place - 1, place) if 0 <= i < a]
    return [(number, j) for j in (place - 1, place) if 0 <= j < b]
