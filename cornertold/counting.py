"""Counting: in how many cloths letters stand, in which ones, and what follows."""

from cornertold.errors import TooMany
from cornertold.mills import refuse_milled
from cornertold.plans import size
from cornertold.sheets import letter
from cornertold.weaving import cloth_at, count_cloths, power
from cornertold.wires import wires

MOST_CLOTHS = 1024


def count_on(plan, pick, some):
    """In how many cloths these letters on wires of the pick stand; Milled where the pick has a mill."""
    refuse_milled(pick)
    a, b = size(plan)
    return power(plan[0], a + b - len(some))


def cloths_with(plan, some):
    """All cloths in which these letters stand, rising; TooMany where the plan has more than can be looked at."""
    many = count_cloths(plan)
    if many > MOST_CLOTHS:
        raise TooMany(many)
    cloths = [cloth_at(plan, number) for number in range(many)]
    return tuple(sorted([cloth for cloth in cloths if has_letters(cloth, some)]))


def has_letters(cloth, some):
    """Whether these letters stand in the cloth."""
    return all([letter(cloth, wire) == sign for wire, sign in some])


def settled(plan, some):
    """All letters on wires, rising, that all cloths with these letters have, None where there is no cloth."""
    cloths = cloths_with(plan, some)
    if not cloths:
        return None
    a, b = size(plan)
    first = [(wire, letter(cloths[0], wire)) for wire in wires(a, b)]
    return tuple([pair for pair in first if all([has_letters(cloth, (pair,)) for cloth in cloths])])
