"""What is told by known wires, whatever the tables are."""

from cornertold.kinds import is_rising
from cornertold.wires import crossings_at, is_wire, legs


def is_known(a, b, thing):
    """Whether it is a rising tuple of wires of that size, of anything as thing."""
    if not isinstance(thing, tuple):
        return False
    return all([is_wire(a, b, wire) for wire in thing]) and is_rising(thing)


def told(a, b, known):
    """All wires that are told by the known ones, rising."""
    held = {wire: True for wire in known}
    for i, j, leg in steps(a, b, known):
        hold(held, i, j)
    return tuple(sorted(list(held)))


def steps(a, b, known):
    """Steps, each of which brings a wire at least, that bring all that is told by the known wires."""
    held = {wire: True for wire in known}
    waiting = list(known)
    taken = []
    while waiting:
        # A crossing can only come to tell something by a new wire at it, so no other one is looked at.
        newest = waiting.pop()
        for i, j in crossings_at(a, b, newest):
            leg = telling_leg(held, i, j)
            fresh = [wire for wire in legs(i, j) if wire not in held]
            if leg is not None and fresh:
                taken.append((i, j, leg))
                hold(held, i, j)
                waiting.extend(fresh)
    return tuple(taken)


def telling_leg(held, i, j):
    """The first leg of crossing (i, j) that is held with the next one, None where there is none."""
    for leg in range(4):
        if is_telling(held, i, j, leg):
            return leg
    return None


def is_telling(held, i, j, leg):
    """Whether that leg of crossing (i, j) and the next one are held."""
    places = legs(i, j)
    return places[leg] in held and places[(leg + 1) % 4] in held


def hold(held, i, j):
    """Hold all legs of crossing (i, j)."""
    for place in legs(i, j):
        held[place] = True
