"""Promise 3, (d) of houses, and (f): what is written is read, what is taken back is as it was, what a desk answers."""

import unittest

from cornertold.breaks import broken, mends, put
from cornertold.closing import closed
from cornertold.desk import Desk
from cornertold.errors import ClothError
from cornertold.filling import ends_at, filled
from cornertold.flipping import flip, flip_pick, flip_sheet
from cornertold.house import House
from cornertold.mills import mill
from cornertold.parted import parted
from cornertold.plans import size
from cornertold.reading import read_known, read_pick, read_plan, read_sheet, read_table
from cornertold.sheets import is_cloth, letter
from cornertold.showing import show_known, show_pick, show_plan, show_sheet, show_table
from cornertold.threads import count_two
from cornertold.told import told
from cornertold.turning import quarter, quarter_pick, quarter_sheet
from cornertold.weaving import cloth_at, count_cloths, number_of
from cornertold.wires import wires
from tests.samples import (
    SIZES, all_cloths, all_picks, grown_to, moving_plan, moving_tables, some_cloth, some_known, some_numbers, some_pick,
    some_plan, some_tables)

SIDES = ("left", "right", "low", "high")


def within(plan, cloth, left, right, low, high):
    """Plan and cloth of the columns from left up to right and the rows from low up to high alone."""
    q, tables, a, rows = plan
    piece = (q, tables, right - left, tuple([row[left:right] for row in rows[low:high]]))
    return (piece, (tuple([row[left:right + 1] for row in cloth[0][low:high]]),
                    tuple([column[low:high + 1] for column in cloth[1][left:right]])))


class Growing:
    """A house that grows to a cloth from some place within it, thread by thread."""

    def __init__(self, plan, cloth, seed):
        self.plan, self.cloth = plan, cloth
        self.width, self.height = size(plan)
        self.left = self.right = seed % (self.width + 1)
        self.low = self.high = (seed // 3) % (self.height + 1)
        self.house = House(plan[0], plan[1])

    def open_sides(self):
        open_ones = {"left": self.left > 0, "right": self.right < self.width,
                     "low": self.low > 0, "high": self.high < self.height}
        return [side for side in SIDES if open_ones[side]]

    def grow(self, side, end):
        """The next thread at that side, with the letter at that end."""
        rows = self.plan[3]
        if side in ("left", "right"):
            i = self.left - 1 if side == "left" else self.right
            numbers = tuple([row[i] for row in rows[self.low:self.high]])
            sign = self.cloth[1][i][self.high if end else self.low]
            self.left, self.right = min(self.left, i), max(self.right, i + 1)
        else:
            j = self.low - 1 if side == "low" else self.high
            numbers = rows[j][self.left:self.right]
            sign = self.cloth[0][j][self.right if end else self.left]
            self.low, self.high = min(self.low, j), max(self.high, j + 1)
        self.house.grow(side, numbers, end, sign)

    def piece(self):
        return within(self.plan, self.cloth, self.left, self.right, self.low, self.high)


def deeds(house, many, seed):
    """So many deeds of all kinds; some are refused."""
    q = house.plan()[0]
    for at in range(many):
        a, b = house.size()
        n = some_numbers(seed * 100 + at, 8, 1000)
        side = SIDES[n[1] % 4]
        try:
            if n[0] % 8 < 3:
                house.grow(side, some_numbers(n[2], b if n[1] % 4 < 2 else a, len(house.plan()[1])), n[3] % 2, n[4] % q)
            elif n[0] % 8 == 3:
                house.cut(side)
            elif n[0] % 8 == 4:
                house.swap(n[2] % (a + 1), n[3] % (b + 1), n[4] % len(house.plan()[1]))
            elif n[0] % 8 == 5:
                house.refill(some_pick(a, b, n[2]), (some_numbers(n[3], b, q), some_numbers(n[4], a, q)))
            elif n[0] % 8 == 6:
                house.turn()
            else:
                house.flip()
        except ClothError:
            pass


class Houses(unittest.TestCase):
    """(d)"""

    def test_the_same_cloth_in_whatever_order_and_from_whatever_ends(self):
        for q, a, b in ((2, 3, 4), (7, 4, 3), (3, 5, 5), (4, 0, 3), (4, 3, 0), (6, 1, 6)):
            plan = moving_plan(q, a, b, seed=q)
            cloth = some_cloth(plan, seed=a)
            for seed in range(25):
                growing = Growing(plan, cloth, seed)
                for side, end in zip(some_numbers(seed, a + b, 4), some_numbers(seed + 1, a + b, 2)):
                    sides = growing.open_sides()
                    growing.grow(sides[side % len(sides)], end)
                    self.assertEqual((growing.house.plan(), growing.house.cloth()), growing.piece())
                self.assertEqual((growing.house.plan(), growing.house.cloth()), (plan, cloth))
                self.assertEqual(growing.house, grown_to(plan, tuple([thread[0] for thread in cloth[1] + cloth[0]])))

    def test_it_is_the_cloth_filled_from_any_of_its_picks_without_a_mill(self):
        for seed in range(30):
            house = House(3, moving_tables(3, 6))
            deeds(house, 25, seed)
            plan, cloth = house.plan(), house.cloth()
            a, b = house.size()
            self.assertIs(is_cloth(plan, cloth), True)
            for turn in range(10):
                pick = some_pick(a, b, seed + turn)
                if mill(pick) is None:
                    self.assertEqual(filled(plan, pick, house.ends(pick)), cloth)
            for wire in wires(a, b):
                self.assertEqual(house.at(wire), letter(cloth, wire))

    def test_from_all_picks_of_a_small_house(self):
        house = grown_to(moving_plan(5, 2, 2), (1, 4, 2, 3))
        for pick in all_picks(2, 2):
            if mill(pick) is None:
                other = grown_to(moving_plan(5, 2, 2))
                other.refill(pick, house.ends(pick))
                self.assertEqual(other, house)

    def test_deeds_turned_and_flipped_are_led_along(self):
        led_sides = {"turn": dict(right="high", high="left", left="low", low="right"),
                     "flip": dict(right="left", left="right", low="low", high="high")}
        for q, a, b in ((2, 2, 3), (5, 3, 2)):
            for side in SIDES:
                for end in (0, 1):
                    for way in ("turn", "flip"):
                        house = grown_to(moving_plan(q, a, b, seed=q), some_numbers(4, a + b, q))
                        other = house.copied()
                        column = side in ("left", "right")
                        numbers = some_numbers(7, b if column else a, 12)
                        house.grow(side, numbers, end, 1)
                        getattr(house, way)()
                        getattr(other, way)()
                        # Turned by a quarter columns are run from the other end, flipped rows are.
                        if column == (way == "turn"):
                            other.grow(led_sides[way][side], numbers[::-1], 1 - end, 1)
                        else:
                            other.grow(led_sides[way][side], numbers, end, 1)
                        self.assertEqual(house, other)

    def test_cut_refilled_and_swapped_turned(self):
        plan = moving_plan(3, 3, 2, seed=2)
        for way, led_pick, led_side in (("turn", quarter_pick, "high"), ("flip", flip_pick, "left")):
            house = grown_to(plan, (1, 0, 2, 2, 1))
            other = house.copied()
            house.cut("right")
            getattr(house, way)()
            getattr(other, way)()
            other.cut(led_side)
            self.assertEqual(house, other)
            pick = ((1, 0), (2, 1, 0))
            one, two = grown_to(plan), grown_to(plan)
            one.refill(pick, ((2, 1), (0, 1, 2)))
            getattr(one, way)()
            getattr(two, way)()
            ends = ((0, 1, 2), (1, 2)) if way == "turn" else ((2, 1), (2, 1, 0))
            two.refill(led_pick(3, 2, pick), ends)
            self.assertEqual(one, two)

    def test_a_house_turned_is_the_plan_and_the_cloth_turned(self):
        for seed in range(15):
            house = House(5, moving_tables(5))
            deeds(house, 15, seed)
            plan, cloth = house.plan(), house.cloth()
            house.turn()
            self.assertEqual((house.plan(), house.cloth()), (quarter(plan), quarter_sheet(cloth)))
            house.flip()
            self.assertEqual((house.plan(), house.cloth()), (flip(quarter(plan)), flip_sheet(quarter_sheet(cloth))))
            for turn in range(3):
                house.turn()
            house.flip()
            house.turn()
            house.turn()
            self.assertEqual((house.plan(), house.cloth()), (plan, cloth))


class Written(unittest.TestCase):
    """(f)"""

    def test_all_that_is_told_is_read_as_it_was(self):
        for q in range(2, 8):
            for a, b in SIZES:
                plan = some_plan(q, a, b, seed=q)
                cloth = some_cloth(plan)
                for led in (plan, quarter(plan), flip(plan)):
                    self.assertEqual(read_plan(show_plan(led)), led)
                self.assertEqual(read_sheet(q, a, b, show_sheet(cloth)), cloth)
                self.assertEqual(read_sheet(q, b, a, show_sheet(quarter_sheet(cloth))), quarter_sheet(cloth))
                for seed in range(4):
                    known = some_known(a, b, seed)
                    self.assertEqual(read_known(a, b, show_known(known)), known)
                    self.assertEqual(read_known(a, b, show_known(told(a, b, known))), told(a, b, known))
                    paper = parted(a, b, known)
                    self.assertEqual(read_plan(show_plan(paper[0])), paper[0])
                    self.assertEqual(read_sheet(2, a, b, show_sheet(paper[2])), paper[2])
                    pick = some_pick(a, b, seed)
                    self.assertEqual(read_pick(a, b, show_pick(pick)), pick)
            for table in some_tables(q):
                self.assertEqual(read_table(q, show_table(table)), table)

    def test_unlike_things_have_unlike_texts(self):
        plan = some_plan(2, 2, 2)
        self.assertEqual(len({show_sheet(cloth) for cloth in all_cloths(plan)}), count_cloths(plan))
        self.assertEqual(len({show_pick(pick) for pick in all_picks(2, 2)}), 81)
        self.assertNotEqual(show_plan((2, plan[1], 0, ((), ()))), show_plan((2, plan[1], 2, ())))

    def test_what_is_read_may_be_handed_in_again(self):
        plan = moving_plan(3, 3, 2)
        read = read_plan(show_plan(plan))
        cloth = read_sheet(3, 3, 2, show_sheet(cloth_at(read, 77)))
        self.assertEqual(number_of(read, cloth), 77)
        sheet = put(cloth, ("row", 1, 1), (letter(cloth, ("row", 1, 1)) + 1) % 3)
        again = read_sheet(3, 3, 2, show_sheet(sheet))
        self.assertEqual(broken(read, again), ((0, 1), (1, 1)))
        self.assertEqual(mends(read, again), ((("row", 1, 1), letter(cloth, ("row", 1, 1))),))
        holed = read_sheet(3, 3, 2, "row 0 - - -\nrow 1 - - -\ncolumn - - 2\ncolumn - - -\ncolumn 1 - -")
        self.assertEqual(read_sheet(3, 3, 2, show_sheet(closed(read, holed))), closed(read, holed))

    def test_what_is_taken_back_is_as_it_was(self):
        for seed in range(15):
            house = House(4, moving_tables(4, 7))
            deeds(house, 12, seed)
            held = [(house.plan(), house.cloth(), len(house))]
            copied = house.copied()
            deeds(house, 10, seed + 50)
            for back in range(len(house) - len(copied)):
                house.back()
            self.assertEqual((house.plan(), house.cloth(), len(house)), held[0])
            self.assertEqual(house, copied)
            while len(house) > 0:
                self.assertEqual(house.back(), copied.back())
                self.assertEqual(house, copied)

    def test_the_desk_answers_as_all_these_do(self):
        plan = moving_plan(3, 3, 3, seed=7)
        desk = Desk(show_plan(plan))
        pick = ((1, 3, 0), (2, 1, 0))
        self.assertIsNone(mill(pick))
        cloth = filled(plan, pick, ((2, 1, 0), (1, 1, 2)))
        self.assertEqual(desk.say("fill 1 3 0 / 2 1 0 : 2 1 0 / 1 1 2"), "3 3")
        self.assertEqual(desk.say("cloth"), show_sheet(cloth).replace("\n", " | "))
        for wire in wires(3, 3):
            self.assertEqual(desk.say("at %s %d %d" % wire), str(letter(cloth, wire)))
        for other in all_picks(2, 3):
            wide = (other[0], other[1] + (1,))
            found = mill(wide)
            expected = "-" if found is None else " ".join(str(number) for number in found)
            self.assertEqual(desk.say("mill " + show_pick(wide)), expected)
            self.assertEqual(desk.say("ends " + show_pick(wide)), show_pick(ends_at(cloth, wide)))
        for seed in range(12):
            known = some_known(3, 3, seed)
            self.assertEqual(desk.say("told " + show_known(known)), str(len(told(3, 3, known))))
            self.assertEqual(desk.say("told " + show_known(known[::-1] + known)), str(len(told(3, 3, known))))
        for one, other in zip(wires(3, 3), wires(3, 3)[1:]):
            self.assertEqual(desk.say("count %s %d %d 1 %s %d %d 2" % (one + other)),
                             str(count_two(plan, one, 1, other, 2)))


if __name__ == "__main__":
    unittest.main()
