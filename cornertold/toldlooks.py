"""Looks at papers that show that a wire is told, or that it is not."""

from cornertold.kinds import is_between, is_tuple_of
from cornertold.plans import is_plan, size
from cornertold.sheets import is_cloth, letter
from cornertold.told import hold, is_telling
from cornertold.wires import is_crossing


def is_step(a, b, thing):
    """Whether it is a step of that size, of anything as thing."""
    if not is_tuple_of(thing, 3):
        return False
    return is_crossing(a, b, thing[:2]) and is_between(thing[2], 0, 3)


def shows_told(a, b, known, wire, thing):
    """Whether it is a tuple of steps that bring that wire from the known ones, of anything as thing."""
    if not isinstance(thing, tuple):
        return False
    held = {place: True for place in known}
    for step in thing:
        if not is_step(a, b, step):
            return False
        i, j, leg = step
        if not is_telling(held, i, j, leg):
            return False
        hold(held, i, j)
    return wire in held


def shows_parted(a, b, known, wire, thing):
    """Whether it is a plan and two cloths, alike on the known wires, unlike on that one, of anything as thing."""
    if not is_tuple_of(thing, 3):
        return False
    plan, one, other = thing
    if not (is_plan(plan) and size(plan) == (a, b) and is_cloth(plan, one) and is_cloth(plan, other)):
        return False
    if letter(one, wire) == letter(other, wire):
        return False
    return all([letter(one, place) == letter(other, place) for place in known])
