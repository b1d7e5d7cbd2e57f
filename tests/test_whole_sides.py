"""Promise 3, (d): whatever is told is told of what is turned by a quarter or flipped, led along."""

import unittest

from cornertold.breaks import broken, mends, put
from cornertold.closing import closed
from cornertold.counting import cloths_with, count_on, settled
from cornertold.filling import ends_at, filled
from cornertold.flipping import flip, flip_pick, flip_sheet, flip_wire
from cornertold.mills import is_mill, mill
from cornertold.orders import order, shows_order
from cornertold.parted import parted
from cornertold.pickings import count_picks, pick_with
from cornertold.picks import comes, picked
from cornertold.plans import size
from cornertold.sheets import is_cloth, letter
from cornertold.tables import flipped, turned
from cornertold.threads import along, count_two, far_along, ways
from cornertold.told import steps, told
from cornertold.toldlooks import shows_parted, shows_told
from cornertold.turning import quarter, quarter_pick, quarter_sheet, quarter_wire
from cornertold.weaving import count_cloths, woven
from cornertold.wires import wires
from tests.samples import (
    SIZES, SMALL_SIZES, all_cloths, all_picks, changed, some_cloth, some_known, some_numbers, some_pick, some_plan,
    some_sheet, some_tables)


class Quarter:
    """How all that is told is led along by a quarter."""

    plan, sheet, table = staticmethod(quarter), staticmethod(quarter_sheet), staticmethod(turned)
    wire, pick = staticmethod(quarter_wire), staticmethod(quarter_pick)
    legs = (1, 2, 3, 0)
    corners = (1, 2, 3, 0)

    def size(a, b):
        return (b, a)

    def crossing(a, b, i, j):
        return (b - 1 - j, i)

    def step(a, b, step):
        i, j, leg = step
        return (b - 1 - j, i, (leg + 1) % 4)

    def ends(ends):
        return (ends[1], ends[0][::-1])

    def mill(a, b, mill):
        i, k, j, l, turn = mill
        return (b - 1 - l, b - 1 - j, i, k, turn)


class Flip:
    """How all that is told is led along by a flip."""

    plan, sheet, table = staticmethod(flip), staticmethod(flip_sheet), staticmethod(flipped)
    wire, pick = staticmethod(flip_wire), staticmethod(flip_pick)
    legs = (2, 1, 0, 3)
    corners = (1, 0, 3, 2)

    def size(a, b):
        return (a, b)

    def crossing(a, b, i, j):
        return (a - 1 - i, j)

    def step(a, b, step):
        i, j, leg = step
        return (a - 1 - i, j, (1, 0, 3, 2)[leg])

    def ends(ends):
        return (ends[0], ends[1][::-1])

    def mill(a, b, mill):
        i, k, j, l, turn = mill
        return (a - 1 - k, a - 1 - i, j, l, -turn)


BOTH = (Quarter, Flip)


def wires_led(way, a, b, some):
    return tuple(sorted([way.wire(a, b, wire) for wire in some]))


def letters_led(way, a, b, some):
    return tuple(sorted([(way.wire(a, b, wire), sign) for wire, sign in some]))


def across(grid):
    return tuple(zip(*grid))


class Told(unittest.TestCase):
    def test_known_and_told_wires_and_their_papers(self):
        for way in BOTH:
            for a, b in SIZES:
                for seed in range(20):
                    known = some_known(a, b, seed)
                    led = wires_led(way, a, b, known)
                    self.assertEqual(told(*way.size(a, b), led), wires_led(way, a, b, told(a, b, known)))
                    taken = tuple([way.step(a, b, step) for step in steps(a, b, known)])
                    plan, one, other = parted(a, b, known)
                    paper = (way.plan(plan), way.sheet(one), way.sheet(other))
                    for wire in wires(a, b)[::2]:
                        there = way.wire(a, b, wire)
                        so = wire in told(a, b, known)
                        self.assertIs(shows_told(*way.size(a, b), led, there, taken), so)
                        self.assertIs(shows_parted(*way.size(a, b), led, there, paper), not so)


class Cloths(unittest.TestCase):
    def test_cloths_are_cloths_wire_by_wire(self):
        for way in BOTH:
            for q in range(2, 8):
                for a, b in SIZES:
                    plan = some_plan(q, a, b, seed=b)
                    cloth = some_cloth(plan)
                    self.assertEqual(size(way.plan(plan)), way.size(a, b))
                    self.assertIs(is_cloth(way.plan(plan), way.sheet(cloth)), True)
                    for wire in wires(a, b):
                        self.assertEqual(letter(way.sheet(cloth), way.wire(a, b, wire)), letter(cloth, wire))

    def test_all_cloths_and_no_other_sheet(self):
        for way in BOTH:
            for q, a, b in ((2, 2, 2), (3, 2, 1), (2, 0, 2), (2, 3, 0), (2, 0, 0)):
                plan = some_plan(q, a, b, seed=6)
                led = sorted([way.sheet(cloth) for cloth in all_cloths(plan)])
                self.assertEqual(led, sorted(all_cloths(way.plan(plan))))
                self.assertEqual(count_cloths(way.plan(plan)), count_cloths(plan))
                for cloth in all_cloths(plan)[::4]:
                    for wire in wires(a, b):
                        other = changed(cloth, wire, (letter(cloth, wire) + 1) % q)
                        self.assertIs(is_cloth(way.plan(plan), way.sheet(other)), is_cloth(plan, other))

    def test_woven_from_the_corner_led_along(self):
        for way in BOTH:
            for q, a, b in ((2, 3, 2), (3, 2, 4), (7, 3, 3), (5, 0, 2), (4, 2, 0)):
                plan = some_plan(q, a, b, seed=q)
                letters = some_numbers(q, a + b, q)
                ends = (letters[:b], letters[b:])
                for corner in range(4):
                    led = woven(way.plan(plan), way.corners[corner], way.ends(ends))
                    self.assertEqual(led, way.sheet(woven(plan, corner, ends)))

    def test_of_forty(self):
        for way in BOTH:
            for a, b in ((40, 40), (40, 3), (0, 40)):
                plan = some_plan(5, a, b, seed=8)
                self.assertIs(is_cloth(way.plan(plan), way.sheet(some_cloth(plan))), True)


class Picks(unittest.TestCase):
    def look_at(self, way, a, b, pick):
        led = way.pick(a, b, pick)
        found = mill(pick)
        self.assertEqual(mill(led) is None, found is None)
        if found is not None:
            self.assertIs(is_mill(led, way.mill(a, b, found)), True)
            self.assertIs(is_mill(led, way.mill(a, b, found[:4] + (-found[4],))), False)
        else:
            crossings = tuple([way.crossing(a, b, i, j) for i, j in order(pick)])
            self.assertIs(shows_order(led, crossings), True)

    def test_mills_and_orders(self):
        for way in BOTH:
            for a, b in SMALL_SIZES[:-1]:
                for pick in all_picks(a, b):
                    self.look_at(way, a, b, pick)
            for a, b in ((5, 4), (4, 7), (12, 12)):
                for seed in range(40):
                    self.look_at(way, a, b, some_pick(a, b, seed))

    def test_legs_by_which_crossings_are_come_to(self):
        for way in BOTH:
            for a, b in ((1, 1), (3, 2), (2, 3), (5, 4)):
                for seed in range(10):
                    pick = some_pick(a, b, seed)
                    for i, j in [(i, j) for i in range(a) for j in range(b)]:
                        there = comes(way.pick(a, b, pick), *way.crossing(a, b, i, j))
                        self.assertEqual(sorted(there), sorted([way.legs[leg] for leg in comes(pick, i, j)]))

    def test_as_many_picks_have_no_mill(self):
        for a, b in SMALL_SIZES:
            self.assertEqual(count_picks(b, a), count_picks(a, b))

    def test_filled_and_counted(self):
        for way in BOTH:
            for q, a, b in ((2, 3, 2), (3, 2, 3), (7, 4, 4), (2, 9, 6), (3, 0, 3), (3, 3, 0)):
                plan = some_plan(q, a, b, seed=q)
                letters = some_numbers(a, a + b, q)
                for seed in range(12):
                    pick = some_pick(a, b, seed)
                    if mill(pick) is None:
                        cloth = filled(plan, pick, (letters[:b], letters[b:]))
                        led = way.pick(a, b, pick)
                        ends = way.ends((letters[:b], letters[b:]))
                        self.assertEqual(filled(way.plan(plan), led, ends), way.sheet(cloth))
                        self.assertEqual(ends_at(way.sheet(cloth), led), ends)
                        some = tuple([(wire, letter(cloth, wire)) for wire in picked(pick)[::2]])
                        there = letters_led(way, a, b, some)
                        self.assertEqual(count_on(way.plan(plan), led, there), count_on(plan, pick, some))

    def test_a_pick_with_two_wires(self):
        for way in BOTH:
            for one, other in ((("row", 1, 2), ("row", 0, 0)), (("row", 1, 2), ("column", 2, 1))):
                pick = way.pick(3, 2, pick_with(3, 2, one, other))
                self.assertIsNone(mill(pick))
                self.assertTrue({way.wire(3, 2, one), way.wire(3, 2, other)} <= set(picked(pick)))


class Counted(unittest.TestCase):
    def test_cloths_with_letters_and_what_is_settled(self):
        for way in BOTH:
            for q, a, b in ((2, 3, 2), (3, 2, 1), (2, 2, 0)):
                plan = some_plan(q, a, b, seed=4)
                for seed in range(12):
                    known = some_known(a, b, seed)
                    some = tuple(zip(known, some_numbers(seed, len(known), q)))
                    led = letters_led(way, a, b, some)
                    cloths = sorted([way.sheet(cloth) for cloth in cloths_with(plan, some)])
                    self.assertEqual(cloths_with(way.plan(plan), led), tuple(cloths))
                    found = settled(plan, some)
                    there = found if found is None else letters_led(way, a, b, found)
                    self.assertEqual(settled(way.plan(plan), led), there)

    def test_two_letters(self):
        for way in BOTH:
            plan = some_plan(3, 3, 2, seed=9)
            for one in wires(3, 2):
                for other in wires(3, 2)[::2]:
                    led = (way.wire(3, 2, one), way.wire(3, 2, other))
                    self.assertEqual(count_two(way.plan(plan), led[0], 1, led[1], 2),
                                     count_two(plan, one, 1, other, 2))

    def test_along_a_thread(self):
        a, b = 4, 3
        plan = some_plan(3, a, b, seed=2)
        for begin, end in ((0, 0), (0, 3), (1, 2), (1, 3)):
            for j in range(b):
                grid = along(plan, "row", j, begin, end)
                self.assertEqual(along(quarter(plan), "column", b - 1 - j, begin, end), grid)
                self.assertEqual(along(flip(plan), "row", j, a - end, a - begin), across(grid))
            for i in range(a):
                grid = along(plan, "column", i, begin, end)
                self.assertEqual(along(quarter(plan), "row", i, b - end, b - begin), across(grid))
                self.assertEqual(along(flip(plan), "column", a - 1 - i, begin, end), grid)

    def test_ways_and_far_along(self):
        for q in (2, 3, 6, 7):
            tables = some_tables(q)[:6]
            for table in tables:
                self.assertEqual(ways(turned(table), "column"), ways(table, "row"))
                self.assertEqual(ways(turned(table), "row"), across(ways(table, "column")))
                self.assertEqual(ways(flipped(table), "row"), across(ways(table, "row")))
                self.assertEqual(ways(flipped(table), "column"), ways(table, "column"))
            led = tuple([turned(table) for table in tables])
            self.assertEqual(far_along(997, led, "column", 10 ** 17), far_along(997, tables, "row", 10 ** 17))
            self.assertEqual(far_along(997, led[::-1], "row", 10 ** 17),
                             across(far_along(997, tables, "column", 10 ** 17)))


class Broken(unittest.TestCase):
    def test_broken_and_mends(self):
        for way in BOTH:
            for q, a, b in ((2, 2, 2), (3, 3, 2), (5, 1, 3), (3, 0, 2), (3, 2, 0)):
                plan = some_plan(q, a, b, seed=a)
                cloth = some_cloth(plan)
                sheets = [changed(cloth, wire, 0) for wire in wires(a, b)] + [some_sheet(q, a, b, seed=7)]
                for sheet in sheets:
                    crossings = [way.crossing(a, b, i, j) for i, j in broken(plan, sheet)]
                    self.assertEqual(broken(way.plan(plan), way.sheet(sheet)), tuple(sorted(crossings)))
                    there = letters_led(way, a, b, mends(plan, sheet))
                    self.assertEqual(mends(way.plan(plan), way.sheet(sheet)), there)

    def test_put_and_closed(self):
        for way in BOTH:
            for q, a, b in ((2, 2, 2), (3, 3, 2), (5, 1, 3), (3, 0, 2), (3, 2, 0)):
                plan = some_plan(q, a, b, seed=b)
                for seed in range(20):
                    holed = some_cloth(plan, seed=seed)
                    for wire in wires(a, b):
                        if wire not in some_known(a, b, seed):
                            holed = put(holed, wire, None)
                    for wire in wires(a, b)[seed::20]:
                        holed = put(holed, wire, 1)
                        self.assertEqual(put(way.sheet(holed), way.wire(a, b, wire), 1), way.sheet(holed))
                    found = closed(plan, holed)
                    there = found if found is None else way.sheet(found)
                    self.assertEqual(closed(way.plan(plan), way.sheet(holed)), there)


if __name__ == "__main__":
    unittest.main()
