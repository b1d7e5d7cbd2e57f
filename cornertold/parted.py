"""Two cloths of one plan that agree on just what is told."""

from cornertold.sheets import sheet_of
from cornertold.tables import lifted, pushed, through
from cornertold.told import told
from cornertold.wires import legs, wires

EXCHANGE = ((0, 1), (1, 0))
THROUGH = 0
PUSHED = 1
LIFTED = 2


def parted(a, b, known):
    """A plan of two letters and two cloths of it, which agree on just the wires that are told."""
    reached = {wire: True for wire in told(a, b, known)}
    rows = tuple([tuple([parting_number(reached, i, j) for i in range(a)]) for j in range(b)])
    tables = (through(2), pushed(2, EXCHANGE), lifted(2, EXCHANGE))
    one = sheet_of(a, b, {wire: 0 for wire in wires(a, b)})
    other = sheet_of(a, b, {wire: 0 if wire in reached else 1 for wire in wires(a, b)})
    return ((2, tables, a, rows), one, other)


def parting_number(reached, i, j):
    """The number of a table with the quads of 0 at all legs of crossing (i, j), and of 1 at those not reached."""
    left, low, right, high = [wire in reached for wire in legs(i, j)]
    # Two neighbouring legs would tell all four: so where one row leg alone is reached no column leg is, and contrary.
    if left != right:
        return PUSHED
    if low != high:
        return LIFTED
    return THROUGH
