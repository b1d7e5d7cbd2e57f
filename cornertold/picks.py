"""Picks: one wire of each thread, from which the threads go outward both ways."""

from cornertold.kinds import is_numbers, is_tuple_of


def is_pick(a, b, thing):
    """Whether it is a pick of that size, of anything as thing."""
    if not is_tuple_of(thing, 2):
        return False
    xs, ys = thing
    return is_numbers(xs, b, a) and is_numbers(ys, a, b)


def picked(pick):
    """The wires of the pick, rising."""
    xs, ys = pick
    columns = [("column", i, y) for i, y in enumerate(ys)]
    rows = [("row", j, x) for j, x in enumerate(xs)]
    return tuple(columns + rows)


def comes(pick, i, j):
    """The legs by which row j and column i come to crossing (i, j)."""
    xs, ys = pick
    return (0 if xs[j] <= i else 2, 1 if ys[i] <= j else 3)


def size_of_pick(pick):
    """How many columns it has and how many rows."""
    xs, ys = pick
    return (len(ys), len(xs))


def has_wire(pick, wire):
    """Whether that wire of its size is the pick's."""
    xs, ys = pick
    word, number, place = wire
    places = xs if word == "row" else ys
    return places[number] == place
