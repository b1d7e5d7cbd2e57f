"""Promises 22 and 23: a house, its deeds, what is asked of it, what it takes back."""

import itertools
import unittest

from cornertold.errors import (
    Bare, Full, Milled, NoBack, NoCrossing, NoEnd, NoEnds, NoLetter, NoLetters, NoNumber, NoNumbers, NoPick, NoSide,
    NoTables, NoWire)
from cornertold.filling import ends_at, filled
from cornertold.flipping import flip, flip_sheet
from cornertold.house import House
from cornertold.mills import mill
from cornertold.plans import is_plan
from cornertold.sheets import is_cloth, letter
from cornertold.tables import pushed, tables_of_two, through
from cornertold.turning import quarter, quarter_sheet
from cornertold.weaving import woven
from cornertold.wires import wires
from tests.samples import (
    MILLED_BACK, MILLED_FORTH, ODD_THINGS, EqualToAll, all_picks, grown_to, moving_plan, moving_tables, nested,
    some_numbers, some_pick, spoiled)

SIDES = ("left", "right", "low", "high")
EXCHANGE = pushed(2, ((1, 0), (0, 1)))
WRONG_NUMBERS = (None, True, False, -1, 12, 10 ** 30, "0", "", (0,), [0], (), nested(tuple), nested(list), b"0",
                 EqualToAll(), object())


def state(house):
    return (house.plan(), house.cloth(), len(house))


class Refusing(unittest.TestCase):
    def refused(self, error, values, deed, house=None):
        """The deed is refused so, with these very values, and the house is as it was."""
        before = None if house is None else state(house)
        with self.assertRaises(error) as caught:
            deed()
        self.assertIs(type(caught.exception), error)
        for name, value in values.items():
            self.assertIs(getattr(caught.exception, name), value)
        if house is not None:
            self.assertEqual(state(house), before)


class Made(Refusing):
    def test_without_threads_at_first(self):
        for q in (2, 3, 4, 5, 6, 7):
            for many in (1, 5, 12):
                tables = moving_tables(q, many)
                house = House(q, tables)
                self.assertEqual(house.plan(), (q, tables, 0, ()))
                self.assertEqual(house.cloth(), ((), ()))
                self.assertEqual(house.size(), (0, 0))
                self.assertEqual(len(house), 0)
                self.assertEqual(House(tables=tables, q=q), house)

    def test_no_letters(self):
        for q in (0, 1, 8, -2, 10 ** 30, None, True, False, "2", (2,), [2], b"2", EqualToAll(), nested(tuple), nested(list),
                  object()):
            self.refused(NoLetters, {"q": q}, lambda: House(q, (through(2),)))
            self.refused(NoLetters, {"q": q}, lambda: House(q, None))

    def test_no_tables(self):
        for thing in ODD_THINGS:
            self.refused(NoTables, {"tables": thing}, lambda: House(2, thing))
        for wrong in spoiled((through(2), EXCHANGE), lengths=False):
            self.refused(NoTables, {"tables": wrong}, lambda: House(2, wrong))
        for wrong in ((), (through(2),) * 13, (through(2), through(3)), [through(2)], through(2)):
            self.refused(NoTables, {"tables": wrong}, lambda: House(2, wrong))
        self.refused(NoTables, {}, lambda: House(3, (through(2),)))


class Grow(Refusing):
    def look_at(self, house, side, numbers, end, sign):
        """Grow there, and look that there is that thread with that letter, that all else is as it was, and a cloth."""
        (q, tables, a, rows), (row_signs, column_signs) = house.plan(), house.cloth()
        b, many = len(rows), len(house)
        told = house.grow(side, numbers, end, sign)
        plan, cloth = house.plan(), house.cloth()
        x, y = int(side == "left"), int(side == "low")
        self.assertEqual(told, (a + 1, b) if side in ("left", "right") else (a, b + 1))
        self.assertEqual((house.size(), len(house)), (told, many + 1))
        self.assertEqual(plan[:3], (q, tables, told[0]))
        self.assertEqual(tuple([row[x:x + a] for row in plan[3][y:y + b]]), rows)
        self.assertEqual(tuple([row[x:x + a + 1] for row in cloth[0][y:y + b]]), row_signs)
        self.assertEqual(tuple([column[y:y + b + 1] for column in cloth[1][x:x + a]]), column_signs)
        at = {"left": 0, "right": a, "low": 0, "high": b}[side]
        if side in ("left", "right"):
            self.assertEqual(tuple([row[at] for row in plan[3]]), numbers)
            self.assertEqual(cloth[1][at][0 if end == 0 else b], sign)
        else:
            self.assertEqual(plan[3][at], numbers)
            self.assertEqual(cloth[0][at][0 if end == 0 else a], sign)
        self.assertIs(is_plan(plan), True)
        self.assertIs(is_cloth(plan, cloth), True)

    def test_at_all_sides_from_either_end(self):
        for q, many in ((2, 12), (7, 12), (2, 1), (7, 1), (3, 12), (6, 5)):
            for seed in range(8):
                house = House(q, moving_tables(q, many))
                for at, (turn, end, sign) in enumerate(zip(
                        some_numbers(seed, 14, 4), some_numbers(seed + 1, 14, 2), some_numbers(seed + 2, 14, q))):
                    side = SIDES[turn]
                    across = house.size()[1 if side in ("left", "right") else 0]
                    self.look_at(house, side, some_numbers(seed + at, across, many), end, sign)

    def test_without_threads_across_both_ends_are_one_wire(self):
        for side, end in itertools.product(SIDES, (0, 1)):
            house = House(3, moving_tables(3))
            for sign in (2, 0, 1):
                self.look_at(house, side, (), end, sign)
            signs = ((1,), (0,), (2,)) if side in ("left", "low") else ((2,), (0,), (1,))
            self.assertEqual(house.cloth(), ((), signs) if side in ("left", "right") else (signs, ()))

    def test_the_words(self):
        house = House(2, (through(2), EXCHANGE))
        self.assertEqual(house.grow("right", (), 0, 1), (1, 0))
        self.assertEqual(house.grow("high", (1,), 0, 1), (1, 1))
        self.assertEqual(house.cloth(), (((1, 1),), ((1, 1),)))
        self.assertEqual(house.grow("left", (1,), 1, 0), (2, 1))
        self.assertEqual(house.cloth(), (((0, 1, 1),), ((0, 0), (1, 1))))
        self.assertEqual(house.grow("low", (0, 1), 1, 0), (2, 2))
        self.assertEqual(house.plan()[3], ((0, 1), (1, 1)))
        self.assertEqual(house.cloth(), (((0, 0, 0), (0, 1, 1)), ((0, 0, 0), (1, 1, 1))))

    def test_by_names(self):
        house = House(2, (through(2), EXCHANGE))
        self.assertEqual(house.grow(letter=1, end=1, numbers=(), side="low"), (0, 1))
        self.assertEqual(house.cloth(), (((1,),), ()))

    def test_to_the_fortieth_thread(self):
        tables = moving_tables(7)
        house = House(7, tables)
        for number in range(40):
            house.grow(("left", "right")[number % 2], (0,) * number, number % 2, number % 7)
            house.grow(("low", "high")[number % 2], (number % 12,) * (number + 1), number % 2, (number * 3) % 7)
        self.assertEqual(house.size(), (40, 40))
        self.assertEqual(len(house), 80)
        self.assertIs(is_cloth(house.plan(), house.cloth()), True)
        for side in SIDES:
            self.refused(Full, {}, lambda: house.grow(side, (0,) * 40, 1, 6), house)
        house.cut("high")
        self.refused(Full, {}, lambda: house.grow("left", (11,) * 39, 0, 0), house)
        self.assertEqual(house.grow("low", (0,) * 40, 0, 0), (40, 40))

    def test_forty_of_one_kind_without_threads_across(self):
        for sides, others in ((("left", "right"), ("low", "high")), (("low", "high"), ("left", "right"))):
            house = House(2, (through(2),))
            for number in range(40):
                house.grow(sides[number % 2], (), 0, 0)
            for side in sides:
                self.refused(Full, {}, lambda: house.grow(side, (), 0, 0), house)
                self.refused(NoLetter, {"letter": 2}, lambda: house.grow(side, (), 0, 2), house)
            self.assertEqual(sum(house.grow(others[0], (0,) * 40, 1, 1)), 41)

    def test_no_side(self):
        house = grown_to(moving_plan(3, 2, 3))
        for side in ODD_THINGS + ("Left", "left ", "up", "top", "l", "", "column", "leftright"):
            self.refused(NoSide, {"side": side}, lambda: house.grow(side, (0, 0, 0), 0, 0), house)

    def test_no_numbers(self):
        house = grown_to(moving_plan(3, 2, 3))
        for side, right in (("left", (0, 11, 4)), ("right", (0, 11, 4)), ("low", (1, 11)), ("high", (1, 11))):
            for wrong in tuple(spoiled(right)) + ODD_THINGS:
                self.refused(NoNumbers, {"numbers": wrong}, lambda: house.grow(side, wrong, 0, 0), house)
            for at, number in itertools.product(range(len(right)), WRONG_NUMBERS):
                wrong = right[:at] + (number,) + right[at + 1:]
                self.refused(NoNumbers, {"numbers": wrong}, lambda: house.grow(side, wrong, 0, 0), house)
        self.refused(NoNumbers, {}, lambda: house.grow("left", (1, 11), 0, 0), house)
        self.refused(NoNumbers, {}, lambda: house.grow("low", (0, 11, 4), 0, 0), house)
        empty = House(2, (through(2),))
        self.refused(NoNumbers, {}, lambda: empty.grow("low", (0,), 0, 0), empty)

    def test_no_end_and_no_letter(self):
        house = grown_to(moving_plan(3, 2, 3))
        for thing in WRONG_NUMBERS + (2, 3) + ODD_THINGS:
            if not (type(thing) is int and thing in (0, 1)):
                self.refused(NoEnd, {"end": thing}, lambda: house.grow("left", (0, 0, 0), thing, 0), house)
            if not (type(thing) is int and thing in (0, 1, 2)):
                self.refused(NoLetter, {"letter": thing}, lambda: house.grow("left", (0, 0, 0), 1, thing), house)
        seven = House(7, (through(7),))
        seven.grow("left", (), 0, 6)
        self.refused(NoLetter, {"letter": 7}, lambda: seven.grow("left", (), 0, 7), seven)

    def test_the_first_named_of_several(self):
        house = House(2, (through(2),))
        for number in range(40):
            house.grow("right", (), 0, 0)
        house.grow("high", (0,) * 40, 0, 0)
        for side, numbers, end, sign, error in (
                ("up", None, None, None, NoSide), ("left", (0, 0), 2, 2, NoNumbers), ("left", (1,), 0, 0, NoNumbers),
                ("left", (0,), 2, 2, NoEnd), ("left", (0,), True, 0, NoEnd), ("left", (0,), 0, 2, NoLetter),
                ("left", (0,), 0, 0, Full), ("right", (0,), 1, 1, Full)):
            self.refused(error, {}, lambda: house.grow(side, numbers, end, sign), house)


class Cut(Refusing):
    def test_the_outermost_thread_and_a_wire_of_each_across_are_gone(self):
        for a, b in ((1, 0), (0, 1), (1, 1), (3, 2), (2, 4)):
            for side in SIDES:
                house = grown_to(moving_plan(5, a, b, seed=a), some_numbers(b, a + b, 5))
                (q, tables, width, rows), (row_signs, column_signs) = house.plan(), house.cloth()
                if (a if side in ("left", "right") else b) == 0:
                    self.refused(Bare, {}, lambda: house.cut(side), house)
                    continue
                told = house.cut(side)
                if side in ("left", "right"):
                    kept = slice(1, None) if side == "left" else slice(0, -1)
                    plan = (q, tables, a - 1, tuple([row[kept] for row in rows]))
                    cloth = (tuple([row[kept] for row in row_signs]), column_signs[kept])
                else:
                    kept = slice(1, None) if side == "low" else slice(0, -1)
                    plan = (q, tables, a, rows[kept])
                    cloth = (row_signs[kept], tuple([column[kept] for column in column_signs]))
                self.assertEqual(told, (plan[2], len(plan[3])))
                self.assertEqual(state(house), (plan, cloth, a + b + 1))
                self.assertIs(is_cloth(plan, cloth), True)

    def test_what_was_grown_is_cut(self):
        for side, end in itertools.product(SIDES, (0, 1)):
            house = grown_to(moving_plan(7, 3, 2), (1, 2, 3, 4, 5))
            before = house.copied()
            house.grow(side, (5,) * house.size()[1 if side in ("left", "right") else 0], end, 6)
            self.assertEqual(house.cut(side), (3, 2))
            self.assertEqual(house, before)

    def test_down_to_nothing(self):
        house = grown_to(moving_plan(2, 3, 3))
        for side in ("left", "low", "right", "high", "left", "low"):
            house.cut(side)
        self.assertEqual((house.size(), house.cloth()), ((0, 0), ((), ())))
        self.assertEqual(house.plan(), (2, moving_tables(2), 0, ()))
        for side in SIDES:
            self.refused(Bare, {}, lambda: house.cut(side), house)
        self.assertEqual(len(house), 12)

    def test_no_side(self):
        house, empty = grown_to(moving_plan(3, 1, 1)), House(2, (through(2),))
        for side in ODD_THINGS + ("Left", "left ", "up", "row"):
            self.refused(NoSide, {"side": side}, lambda: house.cut(side), house)
            self.refused(NoSide, {"side": side}, lambda: empty.cut(side), empty)


class Refill(Refusing):
    def test_at_picks_with_and_without_a_mill(self):
        for q, a, b in ((2, 2, 2), (7, 2, 2), (3, 1, 2), (3, 0, 2), (3, 2, 0)):
            plan = moving_plan(q, a, b, seed=q)
            house = grown_to(plan)
            signs = some_numbers(9, a + b, q)
            ends = (signs[:b], signs[b:])
            for pick in all_picks(a, b):
                if mill(pick) is None:
                    many = len(house)
                    self.assertEqual(house.refill(pick, ends), (a, b))
                    self.assertEqual(state(house), (plan, filled(plan, pick, ends), many + 1))
                    self.assertEqual(house.ends(pick), ends)
                else:
                    with self.assertRaises(Milled) as caught:
                        house.refill(pick, ends)
                    self.assertEqual(caught.exception.mill, mill(pick))

    def test_milled_changes_nothing(self):
        house = grown_to(moving_plan(2, 2, 2))
        for pick, found in ((MILLED_FORTH, (0, 1, 0, 1, 1)), (MILLED_BACK, (0, 1, 0, 1, -1))):
            self.refused(Milled, {}, lambda: house.refill(pick, ((0, 1), (1, 0))), house)
            with self.assertRaises(Milled) as caught:
                house.refill(ends=((0, 1), (1, 0)), pick=pick)
            self.assertEqual(caught.exception.mill, found)

    def test_no_pick_and_no_ends(self):
        house = grown_to(moving_plan(3, 2, 3))
        pick, ends = ((0, 2, 1), (3, 0)), ((0, 2, 1), (2, 0))
        for wrong in tuple(spoiled(pick)) + ODD_THINGS + (((0, 3, 1), (3, 0)), ((0, 2, 1), (4, 0))):
            self.refused(NoPick, {"pick": wrong}, lambda: house.refill(wrong, ends), house)
        for wrong in tuple(spoiled(ends)) + ODD_THINGS + (((0, 3, 1), (2, 0)), ((0, 2, 1), (3, 0)), ends[::-1]):
            self.refused(NoEnds, {"letters": wrong}, lambda: house.refill(pick, wrong), house)

    def test_the_first_named_of_several(self):
        house = grown_to(moving_plan(2, 2, 2))
        self.refused(NoPick, {}, lambda: house.refill(((3, 0), (0, 0)), ((2, 0), (0, 0))), house)
        self.refused(NoEnds, {}, lambda: house.refill(MILLED_FORTH, ((2, 0), (0, 0))), house)
        self.refused(NoEnds, {}, lambda: house.refill(MILLED_FORTH, ((0, 0, 0), (0, 0))), house)
        self.refused(Milled, {}, lambda: house.refill(MILLED_FORTH, ((0, 0), (0, 0))), house)

    def test_of_forty(self):
        plan = moving_plan(7, 40, 40)
        house = grown_to(plan)
        pick = ((20,) * 40, some_numbers(4, 40, 41))
        ends = (some_numbers(5, 40, 7), some_numbers(6, 40, 7))
        self.assertEqual(house.refill(pick, ends), (40, 40))
        self.assertEqual(house.ends(pick), ends)
        self.assertIs(is_cloth(plan, house.cloth()), True)


class Swap(Refusing):
    def test_at_all_places(self):
        for q, a, b in ((2, 3, 2), (7, 2, 3), (5, 1, 1)):
            house = grown_to(moving_plan(q, a, b, seed=5), some_numbers(2, a + b, q))
            for i, j, number in itertools.product(range(a), range(b), (11, 5, 0)):
                (letters, tables, width, rows), (row_signs, column_signs) = house.plan(), house.cloth()
                many = len(house)
                self.assertEqual(house.swap(i, j, number), (a, b))
                changed = [list(row) for row in rows]
                changed[j][i] = number
                plan = (letters, tables, width, tuple([tuple(row) for row in changed]))
                ends = (tuple([row[0] for row in row_signs]), tuple([column[0] for column in column_signs]))
                self.assertEqual(state(house), (plan, woven(plan, 0, ends), many + 1))
                self.assertEqual(house.ends(((0,) * b, (0,) * a)), ends)

    def test_the_same_table_again_is_a_deed_too(self):
        house = grown_to(moving_plan(3, 2, 2))
        before = state(house)
        house.swap(number=house.plan()[3][1][0], j=1, i=0)
        self.assertEqual(state(house), before[:2] + (before[2] + 1,))

    def test_no_crossing_and_no_number(self):
        house = grown_to(moving_plan(3, 2, 3))
        for wrong in WRONG_NUMBERS + (2, 3) + ODD_THINGS:
            if not (type(wrong) is int and wrong in (0, 1)):
                with self.assertRaises(NoCrossing) as caught:
                    house.swap(wrong, 0, 0)
                self.assertIs(type(caught.exception.crossing), tuple)
                self.assertIs(caught.exception.crossing[0], wrong)
                self.assertEqual(caught.exception.crossing[1:], (0,))
            if not (type(wrong) is int and wrong in (0, 1, 2)):
                with self.assertRaises(NoCrossing) as caught:
                    house.swap(0, wrong, None)
                self.assertIs(caught.exception.crossing[1], wrong)
            if not (type(wrong) is int and 0 <= wrong < 12):
                self.refused(NoNumber, {"number": wrong}, lambda: house.swap(1, 2, wrong), house)
        empty = House(2, (through(2),))
        self.refused(NoCrossing, {}, lambda: empty.swap(0, 0, 0), empty)
        rows = grown_to((2, (through(2),), 0, ((), ())))
        self.refused(NoCrossing, {}, lambda: rows.swap(0, 0, 0), rows)
        self.refused(NoCrossing, {}, lambda: house.swap(2, 0, 99), house)
        self.refused(NoCrossing, {}, lambda: house.swap(0, 3, 0), house)
        one = grown_to((2, (through(2),), 1, ((0,),)))
        self.refused(NoNumber, {"number": 1}, lambda: one.swap(0, 0, 1), one)


class Turned(Refusing):
    def test_turned_and_flipped(self):
        for q, a, b in ((2, 3, 2), (7, 2, 3), (3, 0, 2), (3, 2, 0), (3, 0, 0)):
            house = grown_to(moving_plan(q, a, b, seed=8), some_numbers(3, a + b, q))
            plan, cloth, many = state(house)
            self.assertEqual(house.turn(), (b, a))
            self.assertEqual(state(house), (quarter(plan), quarter_sheet(cloth), many + 1))
            self.assertEqual(house.flip(), (b, a))
            self.assertEqual(state(house), (flip(quarter(plan)), flip_sheet(quarter_sheet(cloth)), many + 2))
            self.assertIs(is_cloth(house.plan(), house.cloth()), True)
            for turn in range(2):
                house.flip()
                house.turn()
            self.assertEqual(state(house)[:2], (flip(quarter(plan)), flip_sheet(quarter_sheet(cloth))))

    def test_numbers_are_of_the_tables_turned(self):
        plan = moving_plan(7, 2, 2)
        house = grown_to(plan, (1, 2, 3, 4))
        house.turn()
        house.grow("right", (3, 4), 0, 5)
        self.assertEqual(house.plan()[1], quarter(plan)[1])
        self.assertIs(is_cloth(house.plan(), house.cloth()), True)


class Asked(Refusing):
    def test_letters_and_ends(self):
        for q, a, b in ((2, 3, 2), (7, 2, 3), (3, 0, 2), (3, 2, 0), (3, 0, 0)):
            house = grown_to(moving_plan(q, a, b), some_numbers(7, a + b, q))
            for wire in wires(a, b):
                self.assertEqual(house.at(wire), letter(house.cloth(), wire))
            for seed in range(10):
                pick = some_pick(a, b, seed)
                self.assertEqual(house.ends(pick), ends_at(house.cloth(), pick))
            self.assertEqual(len(house), a + b)
        milled = grown_to(moving_plan(3, 2, 2), (2, 1, 0, 1))
        self.assertEqual(milled.ends(MILLED_FORTH), ends_at(milled.cloth(), MILLED_FORTH))

    def test_no_wire(self):
        house = grown_to(moving_plan(3, 2, 3))
        for right in (("row", 2, 2), ("column", 1, 3), ("row", 0, 0)):
            for wrong in tuple(spoiled(right)) + ODD_THINGS:
                self.refused(NoWire, {"wire": wrong}, lambda: house.at(wrong), house)
        for wrong in (("row", 3, 0), ("row", 0, 3), ("column", 2, 0), ("column", 0, 4), ("rows", 0, 0)):
            self.refused(NoWire, {"wire": wrong}, lambda: house.at(wrong), house)
        empty = House(2, (through(2),))
        self.refused(NoWire, {}, lambda: empty.at(("row", 0, 0)), empty)

    def test_no_pick(self):
        house = grown_to(moving_plan(3, 2, 3))
        for wrong in tuple(spoiled(((0, 2, 1), (3, 0)))) + ODD_THINGS + (((0, 0), (0, 0, 0)),):
            self.refused(NoPick, {"pick": wrong}, lambda: house.ends(wrong), house)


class Back(Refusing):
    def deeds(self, house, many, seed):
        """So many deeds of all kinds, and the states ahead of each."""
        ahead = []
        for at, (kind, turn, sign) in enumerate(zip(
                some_numbers(seed, many, 7), some_numbers(seed + 1, many, 4), some_numbers(seed + 2, many, 2))):
            a, b = house.size()
            before = (state(house), house.copied())
            side = SIDES[turn]
            if kind in (0, 1):
                house.grow(side, some_numbers(at, b if turn < 2 else a, 5), sign, 1 - sign)
            elif kind == 2 and (a if turn < 2 else b) > 0:
                house.cut(side)
            elif kind == 3:
                house.turn()
            elif kind == 4:
                house.flip()
            elif kind == 5 and a * b > 0:
                house.swap(at % a, at % b, turn)
            else:
                house.refill(((a // 2,) * b, (b,) * a), ((sign,) * b, (1 - sign,) * a))
            ahead.append(before)
        return ahead

    def test_one_by_one_to_no_back(self):
        for seed in range(12):
            house = House(3, moving_tables(3, 5))
            ahead = self.deeds(house, 30, seed)
            self.assertEqual(len(house), 30)
            for before, copied in reversed(ahead):
                self.assertEqual(house.back(), (before[0][2], len(before[0][3])))
                self.assertEqual(state(house), before)
                self.assertEqual(house, copied)
            self.refused(NoBack, {}, house.back, house)
            self.assertEqual(state(house), ((3, moving_tables(3, 5), 0, ()), ((), ()), 0))

    def test_behind_back_deeds_go_on_from_there(self):
        house = House(2, (through(2), EXCHANGE))
        house.grow("left", (), 0, 1)
        house.grow("low", (1,), 0, 1)
        self.assertEqual(house.back(), (1, 0))
        self.assertEqual(house.grow("high", (0,), 1, 0), (1, 1))
        self.assertEqual(house.back(), (1, 0))
        self.assertEqual(house.back(), (0, 0))
        self.refused(NoBack, {}, house.back, house)
        self.assertEqual(str(self.no_back(house)) == "", False)

    def no_back(self, house):
        with self.assertRaises(NoBack) as caught:
            house.back()
        return caught.exception

    def test_what_was_refused_is_not_taken_back(self):
        house = grown_to(moving_plan(2, 2, 2))
        for refused in (lambda: house.cut("up"), lambda: house.swap(9, 0, 0), lambda: house.refill(MILLED_BACK, ((0, 0),) * 2),
                        lambda: house.grow("left", (), 0, 0), lambda: house.at(0), lambda: house.ends(0)):
            with self.assertRaises(ValueError):
                refused()
        self.assertEqual(len(house), 4)
        self.assertEqual(house.back(), (2, 1))

    def test_copied_goes_on_by_itself(self):
        house = grown_to(moving_plan(3, 2, 2), (1, 2, 0, 1))
        other = house.copied()
        self.assertIs(type(other), House)
        self.assertIsNot(other, house)
        self.assertEqual(state(other), state(house))
        before = state(house)
        other.turn()
        other.cut("left")
        self.assertEqual(state(house), before)
        self.assertEqual(len(other), 6)
        third = other.copied()
        for expected in ((2, 2), (2, 2), (2, 1), (2, 0), (1, 0), (0, 0)):
            self.assertEqual(other.back(), expected)
        self.refused(NoBack, {}, other.back, other)
        self.assertEqual(state(house), before)
        self.assertEqual(len(third), 6)
        house.back()
        house.flip()
        self.assertEqual((len(house), len(third), len(other)), (4, 6, 0))
        self.assertEqual(third.back(), (2, 2))
        turned_twice = grown_to(moving_plan(3, 2, 1))
        turned_twice.turn()
        self.assertEqual(turned_twice.copied().back(), (2, 1))


class Equal(unittest.TestCase):
    def test_with_a_house_of_the_same_plan_and_cloth(self):
        one = grown_to(moving_plan(3, 2, 2), (1, 2, 0, 1))
        other = grown_to(moving_plan(3, 2, 2), (0, 0, 0, 0))
        self.assertIs(one == other, False)
        self.assertIs(one != other, True)
        other.refill(((0, 0), (0, 0)), ((0, 1), (1, 2)))
        self.assertIs(one == other, True)
        self.assertIs(one != other, False)
        self.assertIs(one == one.copied(), True)
        other.turn()
        self.assertIs(one == other, False)
        for turn in range(3):
            other.turn()
        self.assertIs(one == other, True)

    def test_unlike_plans_with_like_cloths(self):
        self.assertIs(House(2, (through(2),)) == House(2, (through(2), through(2))), False)
        self.assertIs(House(2, (through(2),)) == House(3, (through(3),)), False)
        self.assertIs(House(2, (through(2),)) == House(2, (EXCHANGE,)), False)
        one, other = (grown_to((2, (through(2), through(2)), 1, ((number,),))) for number in (0, 1))
        self.assertEqual(one.cloth(), other.cloth())
        self.assertIs(one == other, False)

    def test_with_nothing_else(self):
        house = House(2, (through(2),))
        for thing in ODD_THINGS + (house.plan(), house.cloth(), (house.plan(), house.cloth()), house.size(), House):
            if not isinstance(thing, EqualToAll):
                self.assertIs(house == thing, False)
        self.assertIs(house.__eq__(EqualToAll()), False)


class Tried(Refusing):
    def test_what_look_tells_is_told_and_all_is_undone(self):
        house = grown_to(moving_plan(3, 2, 2), (1, 2, 0, 1))
        before, deeds_before = state(house), len(house)

        def look(given):
            self.assertIs(given, house)
            given.turn()
            given.grow("left", (0, 1), 1, 2)
            return (given.size(), len(given))

        self.assertEqual(house.tried(look), ((3, 2), deeds_before + 2))
        self.assertEqual(state(house), before)
        self.assertEqual(house.back(), (2, 1))
        self.assertIsNone(house.tried(lambda given: None))
        self.assertIs(house.tried(look=lambda given: given), house)

    def test_what_look_raises_is_raised_and_all_is_undone(self):
        house = grown_to(moving_plan(3, 2, 2), (1, 2, 0, 1))
        before = state(house)

        class Odd(Exception):
            pass

        def look(given):
            given.cut("left")
            given.flip()
            raise Odd("whatever")

        with self.assertRaises(Odd):
            house.tried(look)
        self.assertEqual(state(house), before)

        def refused(given):
            given.cut("left")
            given.cut("left")
            given.cut("left")

        self.refused(Bare, {}, lambda: house.tried(refused), house)
        self.assertEqual(house.back(), (2, 1))

    def test_takings_back_are_undone_too(self):
        house = grown_to(moving_plan(3, 2, 2), (1, 2, 0, 1))
        ahead = [state(house)]
        copied = house.copied()

        def look(given):
            given.turn()
            for back in range(4):
                given.back()
            given.grow("low", (0,), 0, 1)
            return given.size()

        self.assertEqual(house.tried(look), (1, 1))
        self.assertEqual(state(house), ahead[0])

        def to_the_end(given):
            while True:
                given.back()

        self.refused(NoBack, {}, lambda: house.tried(to_the_end), house)
        for expected in ((2, 1), (2, 0), (1, 0), (0, 0)):
            self.assertEqual(house.back(), expected)
            copied.back()
            self.assertEqual(state(house), state(copied))

    def test_tried_within_tried(self):
        house = grown_to(moving_plan(3, 2, 2), (1, 2, 0, 1))
        before = state(house)

        def outer(given):
            given.cut("right")
            within = given.tried(lambda again: (again.cut("right"), again.back(), again.back()))
            return (within, given.size(), len(given))

        self.assertEqual(house.tried(outer), (((0, 2), (1, 2), (2, 2)), (1, 2), 5))
        self.assertEqual(state(house), before)

    def test_a_copy_made_within_stays(self):
        house = grown_to(moving_plan(3, 1, 1))

        def look(given):
            given.turn()
            return given.copied()

        copied = house.tried(look)
        self.assertEqual((len(copied), len(house)), (3, 2))
        self.assertEqual(copied.back(), (1, 1))
        self.assertEqual(copied, house)


class TwelveTables(unittest.TestCase):
    def test_all_tables_of_two_letters(self):
        house = House(2, tables_of_two())
        for number in range(12):
            house.grow("right", (), 0, number % 2)
        house.grow("high", tuple(range(12)), 0, 1)
        house.grow("low", tuple(reversed(range(12))), 1, 0)
        self.assertEqual(house.size(), (12, 2))
        self.assertIs(is_cloth(house.plan(), house.cloth()), True)
        self.assertEqual([column[1] for column in house.cloth()[1]], [0, 1] * 6)


if __name__ == "__main__":
    unittest.main()
