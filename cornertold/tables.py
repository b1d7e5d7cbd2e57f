"""Tables: what goes on where two threads cross."""

from cornertold.kinds import is_between, is_block, is_rising

FEWEST_LETTERS = 2
MOST_LETTERS = 7
MOST_TABLES = 12


def is_many_letters(thing):
    """Whether there are tables of so many letters, of anything."""
    return is_between(thing, FEWEST_LETTERS, MOST_LETTERS)


def is_table(q, thing):
    """Whether it is a table of q letters, of anything as thing."""
    if not (is_many_letters(q) and is_block(thing, q * q, 4, q - 1)):
        return False
    return is_rising(thing) and all([has_each_pair(thing, leg) for leg in range(4)])


def has_each_pair(quads, leg):
    """Whether no pair of letters stands twice at this leg and the next one."""
    # There are as many quads as pairs, so where none stands twice none lacks.
    return len({(quad[leg], quad[(leg + 1) % 4]) for quad in quads}) == len(quads)


def is_tables(q, thing):
    """Whether it is a tuple of tables of q letters, as many as a plan may have, of anything as thing."""
    if not (isinstance(thing, tuple) and is_many_tables(len(thing))):
        return False
    return all([is_table(q, table) for table in thing])


def is_many_tables(many):
    """Whether a plan may have so many tables."""
    return 1 <= many <= MOST_TABLES


def quad_by(table, leg, one, other):
    """The quad with the letter one at that leg, other at the next one."""
    for quad in table:
        if quad[leg] == one and quad[(leg + 1) % 4] == other:
            return quad
    return None


def turned(table):
    """The table turned by a quarter."""
    return tuple(sorted([(h, l, w, r) for l, w, r, h in table]))


def flipped(table):
    """The table with left and right exchanged."""
    return tuple(sorted([(r, w, l, h) for l, w, r, h in table]))


def through(q):
    """The table by which all letters go straight on."""
    return tuple([(l, w, l, w) for l in range(q) for w in range(q)])


def pushed(q, turns):
    """The table by which letters from below go straight on and tell how those from the left are turned."""
    return tuple([(l, w, turns[w][l], w) for l in range(q) for w in range(q)])


def lifted(q, turns):
    """The table by which letters from the left go straight on and tell how those from below are turned."""
    return tuple([(l, w, l, turns[l][w]) for l in range(q) for w in range(q)])


def tables_of_two():
    """All tables of two letters, rising."""
    pairs = [(r, h) for r in range(2) for h in range(2)]
    tried = [
        ((0, 0) + one, (0, 1) + two, (1, 0) + three, (1, 1) + four)
        for one in pairs for two in pairs for three in pairs for four in pairs
    ]
    return tuple(sorted([table for table in tried if is_table(2, table)]))
