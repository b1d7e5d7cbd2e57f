"""Plans: which table stands where."""

from cornertold.kinds import is_between, is_block, is_tuple_of
from cornertold.tables import is_many_letters, is_tables

MOST_THREADS = 40


def is_plan(thing):
    """Whether it is a plan, of anything."""
    if not is_tuple_of(thing, 4):
        return False
    q, tables, a, rows = thing
    if not (is_many_letters(q) and is_tables(q, tables) and is_between(a, 0, MOST_THREADS)):
        return False
    if not (isinstance(rows, tuple) and len(rows) <= MOST_THREADS):
        return False
    return is_block(rows, len(rows), a, len(tables) - 1)


def size(plan):
    """How many columns it has and how many rows."""
    q, tables, a, rows = plan
    return (a, len(rows))


def table_at(plan, i, j):
    """The table at crossing (i, j)."""
    q, tables, a, rows = plan
    return tables[rows[j][i]]
