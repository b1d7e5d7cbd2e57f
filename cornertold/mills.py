"""Mills: four threads of a pick that wait for one another all round."""

from cornertold.errors import Milled
from cornertold.kinds import is_between, is_tuple_of, is_whole
from cornertold.picks import comes, size_of_pick

# The legs by which row j, column k, row l and column i come, with turn 1 and with turn -1.
LEGS_FORTH = (0, 1, 2, 3)
LEGS_BACK = (2, 3, 0, 1)


def is_mill(pick, thing):
    """Whether it is a mill of the pick, of anything as thing."""
    if not is_tuple_of(thing, 5):
        return False
    i, k, j, l, turn = thing
    a, b = size_of_pick(pick)
    if not (is_pair_below(i, k, a) and is_pair_below(j, l, b) and is_whole(turn) and turn in (1, -1)):
        return False
    row_j, column_k, row_l, column_i = LEGS_FORTH if turn == 1 else LEGS_BACK
    lower = comes(pick, i, j) == (row_j, column_i) and comes(pick, k, j) == (row_j, column_k)
    upper = comes(pick, i, l) == (row_l, column_i) and comes(pick, k, l) == (row_l, column_k)
    return lower and upper


def is_pair_below(one, other, many):
    """Whether they are two of the numbers below many, the first one the lesser, of anything."""
    return is_between(one, 0, many - 1) and is_between(other, 0, many - 1) and one < other


def mill(pick):
    """The least mill of the pick, None where there is none."""
    a, b = size_of_pick(pick)
    for i in range(a):
        for k in range(i + 1, a):
            found = mill_between(pick, i, k)
            if found is not None:
                return found
    return None


def mill_between(pick, i, k):
    """The least mill of these two columns, None where there is none."""
    xs, ys = pick
    # Only between their two wires do the columns come to rows from unlike sides, and the lower wire tells the turn.
    turn = 1 if ys[k] < ys[i] else -1
    first, second = (0, 2) if turn == 1 else (2, 0)
    j = None
    for row in range(min(ys[i], ys[k]), max(ys[i], ys[k])):
        leg = leg_to_both(xs[row], i, k)
        if j is None and leg == first:
            j = row
        elif j is not None and leg == second:
            return (i, k, j, row, turn)
    return None


def leg_to_both(x, i, k):
    """The leg by which a row from its wire x comes to columns i and k, None where it comes by unlike ones."""
    if x <= i:
        return 0
    if x > k:
        return 2
    return None


def refuse_milled(pick):
    """Milled, with the least mill, where the pick has one."""
    found = mill(pick)
    if found is not None:
        raise Milled(found)
