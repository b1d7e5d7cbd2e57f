"""Weaving: cloths from the letters at a corner, and cloths by their numbers."""

from cornertold.errors import NoNumber
from cornertold.kinds import is_between
from cornertold.plans import size, table_at
from cornertold.sheets import sheet_of
from cornertold.tables import quad_by
from cornertold.wires import legs


def woven(plan, corner, ends):
    """The cloth with these letters at the ends of its threads that meet at that corner."""
    a, b = size(plan)
    from_left = corner in (0, 3)
    from_below = corner in (0, 1)
    held = letters_at_ends(a, b, from_left, from_below, ends)
    for j in numbers_from(b, from_below):
        for i in numbers_from(a, from_left):
            # Corners count round as legs do, so a crossing is come to from corner k by leg k and the next one.
            cross(plan, held, i, j, corner)
    return sheet_of(a, b, held)


def letters_at_ends(a, b, from_left, from_below, ends):
    """A dict of these letters by the wires at those ends of the threads."""
    row_letters, column_letters = ends
    x = 0 if from_left else a
    y = 0 if from_below else b
    held = {("row", j, x): row_letters[j] for j in range(b)}
    for i in range(a):
        held[("column", i, y)] = column_letters[i]
    return held


def numbers_from(many, from_first):
    """All numbers below many, in the order in which threads come to them."""
    return list(range(many)) if from_first else list(reversed(range(many)))


def cross(plan, held, i, j, leg):
    """Hold the letters at all legs of crossing (i, j), by those held at that leg and the next one."""
    for place, sign in crossed(plan, held, i, j, leg):
        held[place] = sign


def crossed(plan, held, i, j, leg):
    """The wires at crossing (i, j) with their letters, by those held at that leg and the next one."""
    places = legs(i, j)
    quad = quad_by(table_at(plan, i, j), leg, held[places[leg]], held[places[(leg + 1) % 4]])
    return list(zip(places, quad))


def count_cloths(plan):
    """How many cloths the plan has."""
    a, b = size(plan)
    return power(plan[0], a + b)


def power(base, many):
    """The base taken so many times."""
    found = 1
    for taken in range(many):
        found *= base
    return found


def cloth_at(plan, number):
    """The cloth with that number; NoNumber, of anything as number, where there is none."""
    if not is_between(number, 0, count_cloths(plan) - 1):
        raise NoNumber(number)
    a, b = size(plan)
    signs = figures(number, plan[0], a + b)
    return woven(plan, 0, (signs[:b], signs[b:]))


def figures(number, q, many):
    """The last so many figures of the number to the base q, the greatest one first."""
    rest = number
    found = []
    for place in range(many):
        found.append(rest % q)
        rest = rest // q
    return tuple(reversed(found))


def number_of(plan, cloth):
    """The number of that cloth of the plan."""
    rows, columns = cloth
    number = 0
    for thread in rows + columns:
        number = number * plan[0] + thread[0]
    return number
