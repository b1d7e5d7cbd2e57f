"""The refusals; each keeps what it was made with, whatever that is."""


class ClothError(ValueError):
    """What all refusals stand under."""


class NoNumber(ClothError):
    """There is nothing with this number."""

    def __init__(self, number):
        self.number = number


class TooMany(ClothError):
    """There are too many cloths to tell them all."""

    def __init__(self, many):
        self.many = many


class Milled(ClothError):
    """The pick has this mill."""

    def __init__(self, mill):
        self.mill = mill


class NoLetters(ClothError):
    """There are no tables of so many letters."""

    def __init__(self, q):
        self.q = q


class NoTables(ClothError):
    """These are no tables of so many letters."""

    def __init__(self, tables):
        self.tables = tables


class NoSide(ClothError):
    """A house has no such side."""

    def __init__(self, side):
        self.side = side


class NoNumbers(ClothError):
    """These are no numbers of tables for a thread."""

    def __init__(self, numbers):
        self.numbers = numbers


class NoEnd(ClothError):
    """A thread has no such end."""

    def __init__(self, end):
        self.end = end


class NoLetter(ClothError):
    """This is none of the letters."""

    def __init__(self, letter):
        self.letter = letter


class NoPick(ClothError):
    """This is no pick of that size."""

    def __init__(self, pick):
        self.pick = pick


class NoEnds(ClothError):
    """These are no letters for a pick."""

    def __init__(self, letters):
        self.letters = letters


class NoCrossing(ClothError):
    """There is no such crossing."""

    def __init__(self, crossing):
        self.crossing = crossing


class NoWire(ClothError):
    """There is no such wire."""

    def __init__(self, wire):
        self.wire = wire


class NoText(ClothError):
    """The row of this number can't stand in such a text."""

    def __init__(self, row):
        self.row = row


class NoLine(ClothError):
    """A desk has no answer to such a line."""

    def __init__(self, line):
        self.line = line


class OneThread(ClothError):
    """Both wires are of one thread."""


class Full(ClothError):
    """There is no room for one more thread."""


class Bare(ClothError):
    """There is no thread to cut."""


class NoBack(ClothError):
    """There is no deed to take back."""
