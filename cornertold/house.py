"""A house: a plan and a cloth of it that grow at four sides; each deed can be taken back."""

from cornertold.breaks import put_within
from cornertold.errors import (
    Bare, Full, NoBack, NoCrossing, NoEnd, NoEnds, NoLetter, NoLetters, NoNumber, NoNumbers, NoPick, NoSide, NoTables,
    NoWire)
from cornertold.filling import ends_at, filled
from cornertold.flipping import flip, flip_sheet
from cornertold.kinds import is_between, is_numbers, is_tuple_of
from cornertold.picks import is_pick
from cornertold.plans import is_many_threads, size
from cornertold.sheets import thread_of
from cornertold.tables import is_many_letters, is_tables
from cornertold.turning import quarter, quarter_sheet
from cornertold.weaving import woven
from cornertold.wires import is_crossing, is_wire

SIDES = ("left", "right", "low", "high")
SIDES_OF_COLUMNS = ("left", "right")
SIDES_AHEAD = ("left", "low")


def is_side(thing):
    """Whether a house has such a side, of anything."""
    return isinstance(thing, str) and thing in SIDES


def is_ends(plan, thing):
    """Whether it is letters for a pick of that plan's size, of anything as thing."""
    if not is_tuple_of(thing, 2):
        return False
    a, b = size(plan)
    row_letters, column_letters = thing
    return is_numbers(row_letters, b, plan[0] - 1) and is_numbers(column_letters, a, plan[0] - 1)


def along_and_across(plan, side):
    """How many threads such as that side's there are, and how many across."""
    a, b = size(plan)
    return (a, b) if side in SIDES_OF_COLUMNS else (b, a)


def with_one(things, side, one):
    """The tuple with one thing more at that side."""
    return (one,) + things if side in SIDES_AHEAD else things + (one,)


def without_one(things, side):
    """The tuple without its outermost thing at that side."""
    return things[1:] if side in SIDES_AHEAD else things[:-1]


def first_letters(cloth):
    """The letters at the left and low ends of all threads."""
    rows, columns = cloth
    return ends_at(cloth, ((0,) * len(rows), (0,) * len(columns)))


def grown(plan, cloth, side, numbers, end, letter):
    """Plan and cloth with that thread more at that side."""
    q, tables, a, rows = plan
    along, across = along_and_across(plan, side)
    row_letters, column_letters = first_letters(cloth)
    # Behind a thread that is put ahead of it an elder letter stands one wire further on.
    elder = (1 if side in SIDES_AHEAD else 0,) * across
    places = with_one((0,) * along, side, end * across)
    if side in SIDES_OF_COLUMNS:
        wider = (q, tables, a + 1, tuple([with_one(row, side, number) for row, number in zip(rows, numbers)]))
        return (wider, filled(wider, (elder, places), (row_letters, with_one(column_letters, side, letter))))
    higher = (q, tables, a, with_one(rows, side, numbers))
    return (higher, filled(higher, (places, elder), (with_one(row_letters, side, letter), column_letters)))


def shortened(plan, cloth, side):
    """Plan and cloth without the outermost thread at that side."""
    q, tables, a, rows = plan
    row_threads, column_threads = cloth
    if side in SIDES_OF_COLUMNS:
        narrower = (q, tables, a - 1, tuple([without_one(row, side) for row in rows]))
        left = (tuple([without_one(thread, side) for thread in row_threads]), without_one(column_threads, side))
        return (narrower, left)
    lower = (q, tables, a, without_one(rows, side))
    return (lower, (without_one(row_threads, side), tuple([without_one(thread, side) for thread in column_threads])))


class House:
    """It holds a plan and a cloth of it, and what it held ahead of each deed that can be taken back."""

    def __init__(self, q, tables):
        if not is_many_letters(q):
            raise NoLetters(q)
        if not is_tables(q, tables):
            raise NoTables(tables)
        self.held = ((q, tables, 0, ()), ((), ()))
        self.past = []

    def grow(self, side, numbers, end, letter):
        """A thread more at that side, with that letter at its first wire (end 0) or its last one (end 1)."""
        if not is_side(side):
            raise NoSide(side)
        plan, cloth = self.held
        along, across = along_and_across(plan, side)
        if not is_numbers(numbers, across, len(plan[1]) - 1):
            raise NoNumbers(numbers)
        if not is_between(end, 0, 1):
            raise NoEnd(end)
        if not is_between(letter, 0, plan[0] - 1):
            raise NoLetter(letter)
        if not is_many_threads(along + 1):
            raise Full("there are as many such threads as there may be")
        return self.take(grown(plan, cloth, side, numbers, end, letter))

    def cut(self, side):
        """The outermost thread at that side is gone."""
        if not is_side(side):
            raise NoSide(side)
        plan, cloth = self.held
        along, across = along_and_across(plan, side)
        if along == 0:
            raise Bare("there is no such thread")
        return self.take(shortened(plan, cloth, side))

    def refill(self, pick, ends):
        """The cloth that has these letters at the pick's wires."""
        plan = self.plan()
        a, b = size(plan)
        if not is_pick(a, b, pick):
            raise NoPick(pick)
        if not is_ends(plan, ends):
            raise NoEnds(ends)
        return self.take((plan, filled(plan, pick, ends)))

    def swap(self, i, j, number):
        """That crossing has the table of that number; the letters at left and low ends stay."""
        q, tables, a, rows = self.plan()
        if not is_crossing(a, len(rows), (i, j)):
            raise NoCrossing((i, j))
        if not is_between(number, 0, len(tables) - 1):
            raise NoNumber(number)
        changed = (q, tables, a, put_within(rows, j, i, number))
        return self.take((changed, woven(changed, 0, first_letters(self.cloth()))))

    def turn(self):
        """Plan and cloth turned by a quarter."""
        plan, cloth = self.held
        return self.take((quarter(plan), quarter_sheet(cloth)))

    def flip(self):
        """Plan and cloth flipped."""
        plan, cloth = self.held
        return self.take((flip(plan), flip_sheet(cloth)))

    def take(self, held):
        """Hold this plan and cloth; what was held ahead can be taken back."""
        self.past.append(self.held)
        self.held = held
        return self.size()

    def back(self):
        """The last deed that isn't taken back is."""
        if len(self.past) == 0:
            raise NoBack("there is no deed to take back")
        self.held = self.past.pop()
        return self.size()

    def forget(self):
        """Nothing that was done up to now can be taken back."""
        self.past = []

    def plan(self):
        return self.held[0]

    def cloth(self):
        return self.held[1]

    def size(self):
        """How many columns it has and how many rows."""
        return size(self.plan())

    def at(self, wire):
        """The letter on that wire."""
        a, b = self.size()
        if not is_wire(a, b, wire):
            raise NoWire(wire)
        word, number, place = wire
        return thread_of(self.cloth(), word, number)[place]

    def ends(self, pick):
        """The letters at the pick's wires: row letters, column letters."""
        a, b = self.size()
        if not is_pick(a, b, pick):
            raise NoPick(pick)
        return ends_at(self.cloth(), pick)

    def copied(self):
        """A house alike, by itself, with all that can be taken back."""
        q, tables, a, rows = self.plan()
        other = House(q, tables)
        other.held = self.held
        other.past = list(self.past)
        return other

    def tried(self, look):
        """What look tells of the house; all that it did to the house is undone."""
        held = self.held
        past = list(self.past)
        try:
            return look(self)
        finally:
            self.held, self.past = held, past

    def __len__(self):
        return len(self.past)

    def __eq__(self, other):
        return isinstance(other, House) and self.held == other.held
