"""Picks without a mill: how many there are, and one with two given wires."""

from cornertold.errors import OneThread
from cornertold.mills import mill
from cornertold.weaving import figures, power


def count_picks(a, b):
    """How many picks of that size have no mill."""
    all_xs = all_places(b, a + 1)
    return sum([count_with_columns(all_xs, ys) for ys in all_places(a, b + 1)])


def count_with_columns(all_xs, ys):
    """How many picks of one of these places on the rows and just these on the columns have no mill."""
    return len([xs for xs in all_xs if mill((xs, ys)) is None])


def all_places(many, below):
    """All tuples of so many numbers below that one."""
    return [figures(number, below, many) for number in range(power(below, many))]


def pick_with(a, b, one, other):
    """A pick without a mill that has both wires; OneThread where they are of one thread."""
    if one[:2] == other[:2]:
        raise OneThread("both wires are of one thread")
    return (places_with("row", b, (one, other)), places_with("column", a, (one, other)))


def places_with(word, many, pair):
    """Places on so many threads, rows or columns by the word, with those of the wires in the pair on such ones."""
    given = {number: place for kind, number, place in pair if kind == word}
    # A mill has unlike places both on rows and on columns, and only the threads that have both wires get such here.
    rest = min(list(given.values()), default=0)
    return tuple([given.get(number, rest) for number in range(many)])
