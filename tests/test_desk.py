"""Promise 26: a desk, each form of a line, and all refusals in their order."""

import re
import unittest

from cornertold.desk import Desk
from cornertold.errors import (
    Bare, ClothError, Full, Milled, NoBack, NoCrossing, NoEnds, NoLetter, NoLine, NoNumber, NoNumbers, NoPick, NoText,
    NoWire)
from cornertold.house import House
from cornertold.mills import mill
from cornertold.picks import is_pick
from cornertold.reading import read_plan
from cornertold.showing import show_pick, show_plan, show_sheet
from cornertold.tables import pushed, through
from cornertold.threads import count_two
from cornertold.told import told
from cornertold.weaving import woven
from cornertold.wires import is_wire, wires
from tests.samples import (
    FORTY_SIZES, ODD_THINGS, SIZES, by_parts, by_signs, grown_to, moving_plan, some_numbers, some_pick)

NUMBER = "(?:0|[1-9][0-9]{0,29})"
NUMBERS = f"(?:{NUMBER} )*/(?: {NUMBER})*"
WIRE = f"(?:row|column) {NUMBER} {NUMBER}"
SIDE = "(?:left|right|low|high)"
FORMS = {
    "grow": f"grow {SIDE} [01] {NUMBER} :(?: {NUMBER})*", "cut": f"cut {SIDE}",
    "swap": f"swap {NUMBER} {NUMBER} {NUMBER}", "turn": "turn", "flip": "flip", "back": "back",
    "fill": f"fill {NUMBERS} : {NUMBERS}", "at": f"at {WIRE}", "plan": "plan", "cloth": "cloth",
    "told": f"told (?:-|{WIRE}(?:, {WIRE})*)", "mill": f"mill {NUMBERS}", "ends": f"ends {NUMBERS}",
    "count": f"count {WIRE} {NUMBER} {WIRE} {NUMBER}", "size": "size",
}
PLAN = (2, (through(2), pushed(2, ((1, 0), (0, 1)))), 2, ((1, 0), (1, 1), (0, 1)))
LINES = (
    "grow left 0 1 : 0 1 1", "grow low 1 0 : 1 0", "cut high", "swap 1 2 0", "turn", "flip", "back", "plan", "cloth",
    "fill 0 0 0 / 1 2 : 1 0 1 / 0 1", "at row 2 1", "at column 0 3", "told -", "told row 0 0, column 0 0, row 0 0",
    "mill 0 2 0 / 2 0", "ends 0 1 2 / 3 0", "count row 0 1 1 row 0 0 0", "count column 1 3 0 row 2 2 1", "size")


def numbers_of(text):
    return tuple([int(word) for word in text.split()])


def pick_of(text):
    return tuple([numbers_of(part) for part in text.split("/")])


def wire_of(text):
    word, number, place = text.split(" ")
    return (word, int(number), int(place))


class Shadow:
    """A house beside the desk, and what the desk has to answer, by the words of the document."""

    def __init__(self, text):
        self.house = grown_to(read_plan(text))
        self.deeds = 0

    def must_have(self, *things):
        a, b = self.house.size()
        for kind, thing in things:
            if kind == "wire" and not is_wire(a, b, thing):
                raise NoWire(thing)
            if kind == "pick" and not is_pick(a, b, thing):
                raise NoPick(thing)
            if kind == "letter" and thing >= self.house.plan()[0]:
                raise NoLetter(thing)

    def deed(self, size, many=1):
        self.deeds += many
        return "%d %d" % size

    def say(self, line):
        word = line.split(" ")[0]
        if word not in FORMS or re.fullmatch(FORMS[word], line) is None:
            raise NoLine(line)
        return getattr(self, "say_" + word)(line[len(word) + 1:])

    def say_grow(self, rest):
        head, numbers = rest.split(":")
        side, end, sign = head.split()
        self.must_have(("letter", int(sign)))
        return self.deed(self.house.grow(side, numbers_of(numbers), int(end), int(sign)))

    def say_cut(self, rest):
        return self.deed(self.house.cut(rest))

    def say_swap(self, rest):
        return self.deed(self.house.swap(*numbers_of(rest)))

    def say_turn(self, rest):
        return self.deed(self.house.turn())

    def say_flip(self, rest):
        return self.deed(self.house.flip())

    def say_back(self, rest):
        if self.deeds == 0:
            raise NoBack("none")
        return self.deed(self.house.back(), -1)

    def say_fill(self, rest):
        pick, ends = [pick_of(part) for part in rest.split(":")]
        self.must_have(("pick", pick), *[("letter", sign) for sign in ends[0] + ends[1]])
        return self.deed(self.house.refill(pick, ends))

    def say_at(self, rest):
        return str(self.house.at(wire_of(rest)))

    def say_plan(self, rest):
        return " | ".join(show_plan(self.house.plan()).split("\n"))

    def say_cloth(self, rest):
        return " | ".join(show_sheet(self.house.cloth()).split("\n"))

    def say_told(self, rest):
        some = [] if rest == "-" else [wire_of(part) for part in rest.split(", ")]
        self.must_have(*[("wire", wire) for wire in some])
        return str(len(told(*self.house.size(), tuple(sorted(set(some))))))

    def say_mill(self, rest):
        self.must_have(("pick", pick_of(rest)))
        found = mill(pick_of(rest))
        return "-" if found is None else "%d %d %d %d %d" % found

    def say_ends(self, rest):
        self.must_have(("pick", pick_of(rest)))
        rows, columns = self.house.ends(pick_of(rest))
        return " ".join([str(sign) for sign in rows] + ["/"] + [str(sign) for sign in columns])

    def say_count(self, rest):
        words = rest.split(" ")
        one, sign, other, sign_there = (
            wire_of(" ".join(words[:3])), int(words[3]), wire_of(" ".join(words[4:7])), int(words[7]))
        self.must_have(("wire", one), ("letter", sign), ("wire", other), ("letter", sign_there))
        return str(count_two(self.house.plan(), one, sign, other, sign_there))

    def say_size(self, rest):
        return "%d %d" % self.house.size()


def answer(desk, line):
    """What the desk answers, or the class and the values of what it refuses with."""
    try:
        return desk.say(line)
    except ClothError as error:
        return (type(error), {} if isinstance(error, (Full, Bare, NoBack)) else vars(error))


class Beside(unittest.TestCase):
    def look_at(self, desk, shadow, line):
        found = answer(desk, line)
        self.assertEqual(found, answer(shadow, line), line)
        if isinstance(found, tuple):
            self.assertEqual(desk.say("plan"), shadow.say("plan"))
            self.assertEqual(desk.say("cloth"), shadow.say("cloth"))
        return found

    def refused(self, desk, said, error, **values):
        before = (desk.say("plan"), desk.say("cloth"))
        with self.assertRaises(error) as caught:
            desk.say(said)
        self.assertIs(type(caught.exception), error)
        for name, value in values.items():
            self.assertEqual(getattr(caught.exception, name), value)
        self.assertEqual((desk.say("plan"), desk.say("cloth")), before)


class Made(Beside):
    def test_of_the_plan_that_the_text_writes(self):
        for q in range(2, 8):
            for a, b in SIZES + FORTY_SIZES[q - 2:q - 1]:
                plan = moving_plan(q, a, b, seed=a + b)
                desk = Desk(show_plan(plan))
                self.assertEqual(desk.say("size"), f"{a} {b}")
                self.assertEqual(desk.say("plan"), show_plan(plan).replace("\n", " | "))
                cloth = woven(plan, 0, ((0,) * b, (0,) * a))
                self.assertEqual(desk.say("cloth"), show_sheet(cloth).replace("\n", " | "))
                with self.assertRaises(NoBack):
                    desk.say("back")

    def test_by_names(self):
        desk = Desk(text=show_plan(PLAN))
        self.assertEqual(desk.say(line="size"), "2 3")

    def test_refused_as_the_text_is(self):
        for thing in ODD_THINGS + (PLAN, [show_plan(PLAN)], show_plan(PLAN).encode()):
            with self.assertRaises(NoText) as caught:
                Desk(thing)
            self.assertEqual(caught.exception.row, 0)
        lines = show_plan(PLAN).split("\n")
        for text, row in (("\n".join(lines[:3]), 3), ("\n".join(lines + [""]), 7), ("\n".join(lines + ["row 0 2"]), 7),
                          ("\n".join(lines[:2] + lines[1:]), None), ("\n".join(lines[:1] + lines[3:]), 1)):
            if row is None:
                self.assertEqual(Desk(text).say("size"), "2 3")
            else:
                with self.assertRaises(NoText) as caught:
                    Desk(text)
                self.assertEqual(caught.exception.row, row)


class Said(Beside):
    def test_the_words(self):
        desk = Desk(show_plan(PLAN))
        self.assertEqual(desk.say("cloth"), "row 0 1 1 | row 0 1 0 | row 0 0 1 | column 0 0 0 0 | column 0 0 0 0")
        for line, expected in (
                ("grow right 1 1 : 0 0 1", "3 3"), ("at column 2 3", "1"), ("at column 2 0", "1"), ("back", "2 3"),
                ("turn", "3 2"), ("flip", "3 2"), ("back", "3 2"), ("back", "2 3"), ("cut left", "1 3"),
                ("cut right", "0 3"), ("cloth", "row 1 | row 1 | row 0"), ("told row 0 0", "1"), ("ends 0 0 0 /", "1 1 0 /"),
                ("mill 0 0 0 /", "-"), ("back", "1 3"), ("back", "2 3"), ("swap 0 0 0", "2 3"), ("at row 0 1", "0"),
                ("fill 0 0 0 / 0 0 : 1 1 1 / 0 1", "2 3"), ("ends 0 0 0 / 0 0", "1 1 1 / 0 1"),
                ("mill 0 2 0 / 2 0", "0 1 0 1 1"), ("mill 2 0 0 / 0 2", "0 1 0 1 -1"), ("told -", "0"),
                ("told row 0 0, column 0 0", "4"), ("told column 0 0, row 0 0, column 0 0", "4"), ("size", "2 3"),
                ("count row 0 0 0 column 0 0 0", "8"), ("count row 0 0 0 row 0 0 0", "16"),
                ("count row 0 0 0 row 0 0 1", "0")):
            self.assertEqual(desk.say(line), expected, line)

    def test_without_threads(self):
        desk = Desk(show_plan((2, (through(2),), 0, ())))
        for line, expected in (
                ("cloth", ""), ("size", "0 0"), ("plan", "letters 2 | table 0000 0101 1010 1111 | columns 0"),
                ("told -", "0"), ("mill /", "-"), ("ends /", "/"), ("fill / : /", "0 0"), ("turn", "0 0"), ("flip", "0 0"),
                ("back", "0 0"), ("grow left 1 1 :", "1 0"), ("cloth", "column 1"), ("grow low 1 0 : 0", "1 1"),
                ("cloth", "row 0 0 | column 1 1")):
            self.assertEqual(desk.say(line), expected, line)

    def test_the_letters_are_texts(self):
        desk = Desk(show_plan(PLAN))
        for line in LINES[:6] + LINES[7:]:
            self.assertIs(type(answer(Desk(show_plan(PLAN)), line)), str, line)
        self.assertIs(type(desk.say("at row 0 0")), str)

    def test_row_of_lines_beside_a_house(self):
        for q, a, b, seed in ((2, 2, 3, 1), (7, 3, 2, 2), (3, 0, 2, 3), (5, 2, 0, 4), (3, 4, 4, 5)):
            text = show_plan(moving_plan(q, a, b, seed=seed))
            desk, shadow = Desk(text), Shadow(text)
            kinds = set()
            for at in range(120):
                for line in self.some_lines(shadow, q, seed * 1000 + at):
                    found = self.look_at(desk, shadow, line)
                    kinds.add(found[0] if isinstance(found, tuple) else line.split(" ")[0])
            self.assertTrue(set(FORMS) <= kinds)
            self.assertTrue({NoWire, NoPick, NoLetter, NoNumbers, NoCrossing, NoNumber, NoEnds} <= kinds)

    def some_lines(self, shadow, q, seed):
        """Lines of all forms, most of which fit the house."""
        a, b = shadow.house.size()
        n = some_numbers(seed, 12, 1000)
        every = wires(a, b) + (("row", b, 0), ("column", 0, b + 1))
        one, other = every[n[0] % len(every)], every[n[1] % len(every)]
        side = ("left", "right", "low", "high")[n[2] % 4]
        across = b if side in ("left", "right") else a
        pick = some_pick(a, b, n[3]) if n[4] % 5 else some_pick(a + 1, b, n[3])
        letters = "%s / %s" % (" ".join(map(str, some_numbers(n[5], b + (n[6] % 5 == 0), q + (n[7] % 6 == 0)))),
                               " ".join(map(str, some_numbers(n[6], a, q))))
        numbers = " ".join(["%d" % number for number in some_numbers(n[8], across + (n[9] % 6 == 0), 12 + (n[9] % 7 == 0))])
        yield f"grow {side} {n[10] % 2} {n[11] % (q + 1)} : {numbers}".rstrip()
        if n[0] % 2:
            yield f"cut {side}"
        yield f"swap {n[1] % (a + 1)} {n[2] % (b + 1)} {n[3] % 14}"
        yield ("turn", "flip", "back", "back", "size")[n[4] % 5]
        yield f"fill {show_pick(pick)} : {letters}".replace(":  /", ": /").rstrip()
        yield "at %s %d %d" % one
        yield "told %s %d %d, %s %d %d" % (one + other)
        yield "told -"
        yield f"mill {show_pick(pick)}"
        yield f"ends {show_pick(pick)}"
        yield "count %s %d %d %d %s %d %d %d" % (one + (n[5] % (q + 1),) + other + (n[6] % (q + 1),))
        yield from ("plan", "cloth", "size")


class Refused(Beside):
    def test_by_its_form(self):
        text = show_plan(PLAN)
        for so in LINES:
            for line in list(by_signs(so)) + list(by_parts(so, " ", ("", "00", "01", "-1", "+1", "1" * 30, "1" * 31, "-",
                                                                      ":", "/", ",", "row", "left", "x"))):
                desk, shadow = Desk(text), Shadow(text)
                found = answer(desk, line)
                self.assertEqual(found, answer(shadow, line), line)
                if isinstance(found, tuple):
                    self.assertEqual(desk.say("cloth"), shadow.say("cloth"))
                    self.assertEqual(desk.say("plan"), shadow.say("plan"))

    def test_no_line_at_all(self):
        desk = Desk(show_plan(PLAN))
        for thing in ODD_THINGS + (["turn"], ("turn",), b"turn", House):
            with self.assertRaises(NoLine) as caught:
                desk.say(thing)
            self.assertIs(caught.exception.line, thing)
        for line in ("", " ", "turn ", " turn", "turn\n", "Turn", "TURN", "turn turn", "turn 0", "grow", "grow left",
                     "grow left 0 1", "grow left 0 1:", "grow left 2 1 : 0 1 1", "grow up 0 1 : 0 1 1", "grow left 0 -1 :",
                     "grow left 0 1 : ", "grow left 0 1 : 0 :", "cut", "cut up", "cut left left", "swap 0 0", "swap 0 0 0 0",
                     "swap 0 0 -1", "fill", "fill : /", "fill / :", "fill / /", "fill / : / :", "fill / : / /", "fill 0 : 0",
                     "at", "at row 0", "at row 0 0 0", "at rows 0 0", "at 0 0 row", "told", "told ", "told -, -",
                     "told row 0 0,", "told row 0 0,row 0 0", "told row 0 0 , row 0 0", "told row 0 0, -", "told 0",
                     "mill", "mill -", "mill 0 0 0", "ends", "ends 0 / 0 / 0", "count", "count row 0 0 0",
                     "count row 0 0 0 row 0 0", "count row 0 0 0 row 0 0 0 0", "size 0", "plan plan", "cloth\n", "back 1",
                     "tried", "copied", "refill / : /", "len", "grow left 00 1 : 0 1 1", "swap 00 0 0", "swap 0 01 0",
                     "swap 0 0 " + "1" * 31, "at row 0 " + "0" * 2, "grow left 0 1 : 0 1 1 " + "9" * 31):
            self.refused(desk, line, NoLine, line=line)

    def test_numbers_of_thirty_figures(self):
        desk = Desk(show_plan(PLAN))
        most = 10 ** 30 - 1
        self.refused(desk, f"swap 0 0 {most}", NoNumber, number=most)
        self.refused(desk, f"swap {most} 0 0", NoCrossing, crossing=(most, 0))
        self.refused(desk, f"at row 0 {most}", NoWire, wire=("row", 0, most))
        self.refused(desk, f"grow low 0 {most} : 0 0", NoLetter, letter=most)
        self.refused(desk, f"grow low 0 0 : 0 {most}", NoNumbers, numbers=(0, most))
        self.refused(desk, f"ends 0 0 0 / 0 {most}", NoPick, pick=((0, 0, 0), (0, most)))
        self.refused(desk, f"fill 0 0 0 / 0 0 : 0 0 0 / 0 {most}", NoLetter, letter=most)

    def test_wires_picks_letters_in_the_order_in_which_they_stand(self):
        desk = Desk(show_plan(PLAN))
        self.refused(desk, "count row 3 0 2 row 4 0 3", NoWire, wire=("row", 3, 0))
        self.refused(desk, "count row 2 0 2 row 4 0 3", NoLetter, letter=2)
        self.refused(desk, "count row 2 0 1 row 4 0 3", NoWire, wire=("row", 4, 0))
        self.refused(desk, "count row 2 0 1 row 1 0 3", NoLetter, letter=3)
        self.refused(desk, "told row 0 0, column 2 0, row 9 9", NoWire, wire=("column", 2, 0))
        self.refused(desk, "told row 9 9, row 9 9, column 2 0", NoWire, wire=("row", 9, 9))
        self.refused(desk, "fill 0 0 3 / 0 0 : 2 0 0 / 0 0", NoPick, pick=((0, 0, 3), (0, 0)))
        self.refused(desk, "fill 0 0 / 0 0 0 : 2 0 0 / 0 0", NoPick, pick=((0, 0), (0, 0, 0)))
        self.refused(desk, "fill 0 0 2 / 0 0 : 0 3 0 / 2 0", NoLetter, letter=3)
        self.refused(desk, "fill 0 0 2 / 0 0 : 0 1 0 / 0 2", NoLetter, letter=2)
        self.refused(desk, "mill 0 0 3 / 0 0", NoPick, pick=((0, 0, 3), (0, 0)))
        self.refused(desk, "ends / 0 0", NoPick, pick=((), (0, 0)))
        self.refused(desk, "at column 0 4", NoWire, wire=("column", 0, 4))

    def test_ahead_of_all_that_the_house_refuses(self):
        desk = Desk(show_plan(PLAN))
        self.refused(desk, "grow left 0 2 : 9", NoLetter, letter=2)
        self.refused(desk, "grow left 0 1 : 9", NoNumbers, numbers=(9,))
        self.refused(desk, "grow left 0 1 :", NoNumbers, numbers=())
        self.refused(desk, "grow left 0 1 : 0 0 2", NoNumbers, numbers=(0, 0, 2))
        self.refused(desk, "fill 0 2 0 / 2 0 : 0 0 2 / 0", NoLetter, letter=2)
        self.refused(desk, "fill 0 2 0 / 2 0 : 0 0 1 / 0", NoEnds, letters=((0, 0, 1), (0,)))
        self.refused(desk, "fill 0 2 0 / 2 0 : 0 0 / 0 0", NoEnds, letters=((0, 0), (0, 0)))
        self.refused(desk, "fill 0 2 0 / 2 0 : 0 0 1 / 0 0", Milled, mill=(0, 1, 0, 1, 1))

    def test_as_the_house_refuses(self):
        desk = Desk(show_plan(PLAN))
        self.refused(desk, "swap 2 0 9", NoCrossing, crossing=(2, 0))
        self.refused(desk, "swap 0 3 0", NoCrossing, crossing=(0, 3))
        self.refused(desk, "swap 1 2 2", NoNumber, number=2)
        self.refused(desk, "back", NoBack)
        desk.say("turn")
        desk.say("back")
        self.refused(desk, "back", NoBack)
        bare = Desk(show_plan((2, (through(2),), 0, ((),))))
        self.refused(bare, "cut left", Bare)
        self.refused(bare, "cut right", Bare)
        self.assertEqual(bare.say("cut low"), "0 0")
        self.refused(bare, "cut high", Bare)

    def test_full(self):
        desk = Desk(show_plan(moving_plan(3, 40, 2)))
        self.refused(desk, "grow left 0 3 : 0", NoLetter, letter=3)
        self.refused(desk, "grow left 0 2 : 0", NoNumbers, numbers=(0,))
        self.refused(desk, "grow left 0 2 : 0 0", Full)
        self.refused(desk, "grow right 1 0 : 11 11", Full)
        self.assertEqual(desk.say("grow low 1 2 :" + " 11" * 40), "40 3")


if __name__ == "__main__":
    unittest.main()
