"""A desk: a house that is spoken to line by line."""

from cornertold.errors import NoLetter, NoLine, NoPick, NoWire
from cornertold.house import House, is_side
from cornertold.kinds import is_between
from cornertold.mills import mill
from cornertold.picks import is_pick
from cornertold.reading import number_in, numbers_in, pick_in, read_plan, wire_in, wires_in
from cornertold.showing import show_pick, show_plan, show_sheet
from cornertold.threads import count_two
from cornertold.told import told
from cornertold.wires import is_wire


def form_of_grow(words):
    """The values of `S E L : N ..`; here and below None where the words behind the first one aren't of that form."""
    if not (len(words) >= 4 and is_side(words[0]) and words[1] in ("0", "1") and words[3] == ":"):
        return None
    sign = number_in(words[2])
    numbers = numbers_in(words[4:])
    return None if sign is None or numbers is None else (words[0], numbers, int(words[1]), sign)


def form_of_cut(words):
    """S"""
    return (words[0],) if len(words) == 1 and is_side(words[0]) else None


def form_of_swap(words):
    """I J N"""
    return numbers_in(words) if len(words) == 3 else None


def form_of_fill(words):
    """P : L .. / L .."""
    if words.count(":") != 1:
        return None
    at = words.index(":")
    pick = pick_in(words[:at])
    ends = pick_in(words[at + 1:])
    return None if pick is None or ends is None else (pick, ends)


def form_of_nothing(words):
    """No word behind the first one."""
    return () if len(words) == 0 else None


def form_of_wire(words):
    """W"""
    wire = wire_in(words)
    return None if wire is None else (wire,)


def form_of_wires(words):
    """W, W .. or -"""
    return wires_in(" ".join(words))


def form_of_pick(words):
    """P"""
    pick = pick_in(words)
    return None if pick is None else (pick,)


def form_of_count(words):
    """W L W L"""
    if len(words) != 8:
        return None
    values = (wire_in(words[:3]), number_in(words[3]), wire_in(words[4:7]), number_in(words[7]))
    return None if None in values else values


def refuse_wire(house, wire):
    """NoWire where the house hasn't that wire."""
    a, b = house.size()
    if not is_wire(a, b, wire):
        raise NoWire(wire)


def refuse_pick(house, pick):
    """NoPick where it is no pick of the house's size."""
    a, b = house.size()
    if not is_pick(a, b, pick):
        raise NoPick(pick)


def refuse_letter(house, sign):
    """NoLetter where it is beyond the house's letters."""
    if not is_between(sign, 0, house.plan()[0] - 1):
        raise NoLetter(sign)


def shown_size(size):
    a, b = size
    return f"{a} {b}"


def answer_grow(house, values):
    side, numbers, end, sign = values
    refuse_letter(house, sign)
    return shown_size(house.grow(side, numbers, end, sign))


def answer_cut(house, values):
    return shown_size(house.cut(values[0]))


def answer_swap(house, values):
    i, j, number = values
    return shown_size(house.swap(i, j, number))


def answer_turn(house, values):
    return shown_size(house.turn())


def answer_flip(house, values):
    return shown_size(house.flip())


def answer_back(house, values):
    return shown_size(house.back())


def answer_fill(house, values):
    pick, ends = values
    refuse_pick(house, pick)
    for sign in ends[0] + ends[1]:
        refuse_letter(house, sign)
    return shown_size(house.refill(pick, ends))


def answer_at(house, values):
    return str(house.at(values[0]))


def answer_plan(house, values):
    return show_plan(house.plan()).replace("\n", " | ")


def answer_cloth(house, values):
    return show_sheet(house.cloth()).replace("\n", " | ")


def answer_told(house, values):
    for wire in values:
        refuse_wire(house, wire)
    a, b = house.size()
    known = {wire: True for wire in values}
    return str(len(told(a, b, tuple(sorted(list(known))))))


def answer_mill(house, values):
    refuse_pick(house, values[0])
    found = mill(values[0])
    return "-" if found is None else " ".join([str(number) for number in found])


def answer_ends(house, values):
    return show_pick(house.ends(values[0]))


def answer_count(house, values):
    one, sign, other, sign_there = values
    refuse_wire(house, one)
    refuse_letter(house, sign)
    refuse_wire(house, other)
    refuse_letter(house, sign_there)
    return str(count_two(house.plan(), one, sign, other, sign_there))


def answer_size(house, values):
    return shown_size(house.size())


FORMS = {
    "grow": form_of_grow, "cut": form_of_cut, "swap": form_of_swap, "turn": form_of_nothing, "flip": form_of_nothing,
    "back": form_of_nothing, "fill": form_of_fill, "at": form_of_wire, "plan": form_of_nothing,
    "cloth": form_of_nothing, "told": form_of_wires, "mill": form_of_pick, "ends": form_of_pick,
    "count": form_of_count, "size": form_of_nothing,
}

ANSWERS = {
    "grow": answer_grow, "cut": answer_cut, "swap": answer_swap, "turn": answer_turn, "flip": answer_flip,
    "back": answer_back, "fill": answer_fill, "at": answer_at, "plan": answer_plan, "cloth": answer_cloth,
    "told": answer_told, "mill": answer_mill, "ends": answer_ends, "count": answer_count, "size": answer_size,
}


class Desk:
    """It has a house that has grown to the plan that a text writes."""

    def __init__(self, text):
        q, tables, a, rows = read_plan(text)
        self.house = House(q, tables)
        for i in range(a):
            self.house.grow("right", (), 0, 0)
        for numbers in rows:
            self.house.grow("high", numbers, 0, 0)
        self.house.forget()

    def say(self, line):
        """The answer to that line; NoLine, of anything, where it is of none of the forms."""
        if not isinstance(line, str):
            raise NoLine(line)
        first, *rest = line.split(" ")
        if first not in FORMS:
            raise NoLine(line)
        form = FORMS[first]
        values = form(rest)
        if values is None:
            raise NoLine(line)
        answer = ANSWERS[first]
        return answer(self.house, values)
