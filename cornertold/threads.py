"""Along a thread: how many ways lead from letter to letter."""

from cornertold.plans import size, table_at
from cornertold.weaving import power


def ways(table, word):
    """The grid of how many quads of the table lead from letter to letter, along a row or a column."""
    leg = 0 if word == "row" else 1
    pairs = [(quad[leg], quad[leg + 2]) for quad in table]
    q = many_letters(table)
    return tuple([tuple([pairs.count((u, v)) for v in range(q)]) for u in range(q)])


def many_letters(table):
    """How many letters the table is of."""
    # Quads rise, so the last one has the last letter at its left.
    return table[-1][0] + 1


def along(plan, word, number, begin, end):
    """The grid of how many rows of letters that come across lead along that thread from wire begin to wire end."""
    return along_tables(plan[0], tables_between(plan, word, number, begin, end), word)


def tables_between(plan, word, number, begin, end):
    """The tables on that thread between its wires begin and end."""
    if word == "row":
        return [table_at(plan, i, number) for i in range(begin, end)]
    return [table_at(plan, number, j) for j in range(begin, end)]


def along_tables(q, tables, word):
    """The grid along a thread through these tables of q letters, one behind the other."""
    grid = standing(q)
    for table in tables:
        grid = joined(grid, ways(table, word))
    return grid


def standing(q):
    """The grid by which each letter leads to itself alone, one way."""
    return tuple([tuple([1 if u == v else 0 for v in range(q)]) for u in range(q)])


def joined(one, other):
    """The grid of the ways by the one and then by the other."""
    columns = list(zip(*other))
    return tuple([tuple([joined_ways(row, column) for column in columns]) for row in one])


def joined_ways(row, column):
    return sum([many * on for many, on in zip(row, column)])


def count_two(plan, one, letter, other, letter_there):
    """In how many cloths these two letters stand on these two wires."""
    a, b = size(plan)
    if one[:2] != other[:2]:
        # Both are on a pick without a mill, and the letters of its other wires are free.
        return power(plan[0], a + b - 2)
    word, number, place = one
    (begin, first), (end, last) = sorted([(place, letter), (other[2], letter_there)])
    # Free are the letters of all threads but this one and those that come across between the two wires.
    free = a + b - 1 - (end - begin)
    return along(plan, word, number, begin, end)[first][last] * power(plan[0], free)


def far_along(p, tables, word, times):
    """The rests by p of the grid along a thread that goes through these tables so many times."""
    q = many_letters(tables[0])
    grid = standing(q)
    # There may be far too many times to go one by one, so each round goes twice as far as the one ahead.
    step = rests(along_tables(q, tables, word), p)
    left = times
    while left > 0:
        if left % 2 == 1:
            grid = rests(joined(grid, step), p)
        step = rests(joined(step, step), p)
        left = left // 2
    return grid


def rests(grid, p):
    """The grid of the rests by p."""
    return tuple([tuple([many % p for many in row]) for row in grid])
