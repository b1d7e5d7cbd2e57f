"""Looks at things of any kind: nothing is compared here before its kind is known.

Python holds True and 1 for equal, and a thing of a strange kind may be equal to whatever it likes.
"""


def is_whole(thing):
    return isinstance(thing, int) and not isinstance(thing, bool)


def is_between(thing, least, most):
    """Whether it is a whole number from least to most."""
    return is_whole(thing) and least <= thing <= most


def is_tuple_of(thing, many):
    return isinstance(thing, tuple) and len(thing) == many


def is_numbers(thing, many, most):
    """Whether it is a tuple of so many whole numbers from 0 to most."""
    return is_tuple_of(thing, many) and all([is_between(part, 0, most) for part in thing])


def is_block(thing, many, length, most):
    """Whether it is a tuple of so many tuples, each of length whole numbers from 0 to most."""
    return is_tuple_of(thing, many) and all([is_numbers(part, length, most) for part in thing])


def is_rising(things):
    """Whether each is greater than the one ahead, of a tuple of things that can be compared."""
    return all([one < other for one, other in zip(things, things[1:])])
