"""Holed sheets, and all that corners bring to them."""

from cornertold.kinds import is_between, is_tuple_of
from cornertold.plans import size
from cornertold.sheets import letter, sheet_of
from cornertold.told import telling_leg
from cornertold.weaving import crossed
from cornertold.wires import crossings_at, wires


def is_holed(q, a, b, thing):
    """Whether it is a sheet of q letters of that size, perhaps with None in the place of letters, of anything."""
    if not is_tuple_of(thing, 2):
        return False
    rows, columns = thing
    return is_holed_block(q, rows, b, a + 1) and is_holed_block(q, columns, a, b + 1)


def is_holed_block(q, thing, many, length):
    """Whether it is a tuple of so many tuples, each of length letters or None."""
    return is_tuple_of(thing, many) and all([is_holed_thread(q, thread, length) for thread in thing])


def is_holed_thread(q, thing, length):
    return is_tuple_of(thing, length) and all([part is None or is_between(part, 0, q - 1) for part in thing])


def closed(plan, holed):
    """The holed sheet with all letters that corners bring, None where two unlike ones come to one wire."""
    a, b = size(plan)
    every = wires(a, b)
    held = {wire: letter(holed, wire) for wire in every if letter(holed, wire) is not None}
    waiting = list(held)
    while waiting:
        newest = waiting.pop()
        for i, j in crossings_at(a, b, newest):
            brought = brought_by(plan, held, i, j)
            if any([held.get(place, sign) != sign for place, sign in brought]):
                return None
            waiting.extend([place for place, sign in brought if place not in held])
            for place, sign in brought:
                held[place] = sign
    return sheet_of(a, b, {wire: held.get(wire) for wire in every})


def brought_by(plan, held, i, j):
    """The wires at crossing (i, j) with the letters that two neighbouring ones bring, none where no two are held."""
    leg = telling_leg(held, i, j)
    return [] if leg is None else crossed(plan, held, i, j, leg)
