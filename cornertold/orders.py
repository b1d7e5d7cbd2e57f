"""Orders: how all crossings follow from a pick, one behind the other."""

from cornertold.kinds import is_tuple_of
from cornertold.mills import refuse_milled
from cornertold.picks import comes, has_wire, size_of_pick
from cornertold.wires import is_crossing, legs

# How far the crossing beyond each leg stands to the right and up.
BEYOND = ((-1, 0), (0, -1), (1, 0), (0, 1))


def order(pick):
    """All crossings, each behind those that it wants; Milled where the pick has a mill."""
    # Without a mill no crossings want one another in a ring, so each is passed at last.
    refuse_milled(pick)
    a, b = size_of_pick(pick)
    passed = {}
    for i in range(a):
        for j in range(b):
            pass_behind_wanted(pick, passed, (i, j))
    return tuple(list(passed))


def pass_behind_wanted(pick, passed, crossing):
    """Put this crossing into passed, behind all that it wants, straight or through others."""
    path = [crossing]
    while path:
        i, j = path[-1]
        lacking = [one for one in wanted(pick, i, j) if one not in passed]
        if lacking:
            path.extend(lacking)
        else:
            passed[path.pop()] = True


def wanted(pick, i, j):
    """The crossings, none to two, from which letters come to crossing (i, j)."""
    found = []
    for leg in comes(pick, i, j):
        if not has_wire(pick, legs(i, j)[leg]):
            across, up = BEYOND[leg]
            found.append((i + across, j + up))
    return found


def shows_order(pick, thing):
    """Whether it is an order of the pick, of anything as thing."""
    a, b = size_of_pick(pick)
    if not is_tuple_of(thing, a * b):
        return False
    passed = {}
    for crossing in thing:
        if not is_crossing(a, b, crossing) or crossing in passed:
            return False
        i, j = crossing
        if not all([one in passed for one in wanted(pick, i, j)]):
            return False
        passed[crossing] = True
    return True
