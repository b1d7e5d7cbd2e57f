"""Plans: which table stands where."""

from cornertold.kinds import is_between, is_block, is_tuple_of
from cornertold.tables import is_many_letters, is_tables

MOST_THREADS = 40


def is_plan(thing):
    """Whether it is a plan, of anything."""
    if not is_tuple_of(thing, 4):
        return False
    q, tables, a, rows = thing
    if not (is_many_letters(q) and is_tables(q, tables) and is_many_threads(a)):
        return False
    if not (isinstance(rows, tuple) and is_many_threads(len(rows))):
        return False
    return is_block(rows, len(rows), a, len(tables) - 1)


def is_many_threads(thing):
    """Whether a plan may have so many columns, or so many rows, of anything."""
    return is_between(thing, 0, MOST_THREADS)


def size(plan):
    """How many columns it has and how many rows."""
    q, tables, a, rows = plan
    return (a, len(rows))


def table_at(plan, i, j):
    """The table at crossing (i, j)."""
    q, tables, a, rows = plan
    return tables[rows[j][i]]
