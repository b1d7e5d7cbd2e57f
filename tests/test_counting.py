import itertools
import unittest

from cornertold.counting import cloths_with, count_on, settled
from cornertold.errors import Milled, TooMany
from cornertold.picks import picked
from cornertold.sheets import is_cloth, letter
from cornertold.tables import pushed, through
from cornertold.told import told
from cornertold.weaving import count_cloths
from cornertold.wires import wires
from tests.samples import (
    MILLED_BACK, MILLED_FORTH, SIZES, all_cloths, all_picks, all_sheets, mills_by_the_words, some_known, some_numbers,
    some_plan)


def standing_in(cloth, some):
    return all(letter(cloth, wire) == sign for wire, sign in some)


def some_letters(q, chosen, seed):
    return tuple(zip(chosen, some_numbers(seed, len(chosen), q)))


class CountOn(unittest.TestCase):
    def test_all_picks_by_looking_at_all_cloths(self):
        for q, a, b in ((2, 1, 1), (3, 1, 1), (2, 2, 1), (2, 1, 2), (2, 2, 2), (3, 0, 2), (3, 2, 0), (2, 0, 0)):
            plan = some_plan(q, a, b, seed=a + b)
            cloths = all_cloths(plan)
            for at, pick in enumerate(all_picks(a, b)):
                if mills_by_the_words(pick):
                    continue
                for many in range(a + b + 1):
                    for chosen in itertools.combinations(picked(pick), many):
                        some = some_letters(q, chosen, at)
                        slow = sum(standing_in(cloth, some) for cloth in cloths)
                        self.assertEqual(count_on(plan, pick, some), slow)

    def test_on_no_wire_and_on_all_wires(self):
        for q in range(2, 8):
            for a, b in SIZES + ((40, 40), (40, 0), (0, 40)):
                plan = some_plan(q, a, b)
                pick = ((a // 2,) * b, (b,) * a)
                self.assertEqual(count_on(plan, pick, ()), q ** (a + b))
                some = some_letters(q, picked(pick), q)
                self.assertEqual(count_on(plan, pick, some), 1)
                if some:
                    self.assertEqual(count_on(plan, pick, some[:-1]), q)
                    self.assertEqual(count_on(plan, pick, some[:1]), q ** (a + b - 1))

    def test_milled_with_just_the_least_mill(self):
        for a, b, pick in [(2, 2, MILLED_FORTH), (2, 2, MILLED_BACK)] + [
                (3, 3, pick) for pick in all_picks(3, 3) if mills_by_the_words(pick)]:
            plan = (3, (through(3),), a, ((0,) * a,) * b)
            for some in ((), ((picked(pick)[0], 2),), some_letters(3, picked(pick), 4)):
                with self.assertRaises(Milled) as caught:
                    count_on(plan, pick, some)
                self.assertEqual(caught.exception.mill, mills_by_the_words(pick)[0])


class ClothsWith(unittest.TestCase):
    def test_by_looking_at_all_sheets(self):
        for q, a, b in ((2, 0, 0), (2, 0, 2), (2, 2, 0), (2, 1, 1), (3, 1, 1), (2, 2, 1), (2, 1, 2), (2, 2, 2)):
            plan = some_plan(q, a, b, seed=5 * a + b)
            cloths = [sheet for sheet in all_sheets(q, a, b) if is_cloth(plan, sheet)]
            for seed in range(30):
                some = some_letters(q, some_known(a, b, seed), seed)
                slow = tuple(sorted(cloth for cloth in cloths if standing_in(cloth, some)))
                self.assertEqual(cloths_with(plan, some), slow)

    def test_cloths_rise_by_all_their_letters_not_by_their_numbers(self):
        turns = ((1, 0), (0, 1))
        plan = (2, (pushed(2, turns),), 1, ((0,), (0,)))
        cloths = cloths_with(plan, ())
        self.assertEqual(cloths, tuple(sorted(all_cloths(plan))))
        self.assertNotEqual(cloths, tuple(all_cloths(plan)))
        self.assertEqual(cloths[0], (((0, 0), (0, 0)), ((1, 1, 1),)))

    def test_without_threads(self):
        plan = (2, (through(2),), 0, ())
        self.assertEqual(cloths_with(plan, ()), (((), ()),))
        plan = (3, (through(3),), 0, ((), ()))
        self.assertEqual(cloths_with(plan, ((("row", 0, 0), 2),)),
                         tuple([(((2,), (k,)), ()) for k in range(3)]))

    def test_no_cloth(self):
        plan = (2, (through(2),), 2, ((0, 0),))
        self.assertEqual(cloths_with(plan, ((("row", 0, 0), 0), (("row", 0, 2), 1))), ())

    def test_a_plan_of_1024_cloths_and_one_of_more(self):
        for q, a, b in ((2, 5, 5), (2, 0, 10), (2, 9, 1), (4, 2, 3)):
            plan = some_plan(q, a, b)
            self.assertEqual(count_cloths(plan), 1024)
            self.assertEqual(cloths_with(plan, ()), tuple(sorted(all_cloths(plan))))
            first = wires(a, b)[0] if a else ("row", 0, 0)
            self.assertEqual(len(cloths_with(plan, ((first, 1),))), 1024 // q)
        for q, a, b in ((2, 5, 6), (2, 11, 0), (3, 3, 4), (4, 3, 3), (5, 0, 5), (6, 2, 2), (7, 2, 2), (7, 40, 40)):
            plan = some_plan(q, a, b)
            for some in ((), ((wires(a, b)[0], 0),), some_letters(q, wires(a, b), 3)):
                with self.assertRaises(TooMany) as caught:
                    cloths_with(plan, some)
                self.assertEqual(caught.exception.many, q ** (a + b))


class Settled(unittest.TestCase):
    def test_by_looking_at_all_sheets(self):
        for q, a, b in ((2, 0, 0), (2, 0, 2), (2, 2, 0), (2, 1, 1), (3, 1, 1), (2, 2, 1), (2, 1, 2), (2, 2, 2)):
            plan = some_plan(q, a, b, seed=7 * a + b)
            cloths = [sheet for sheet in all_sheets(q, a, b) if is_cloth(plan, sheet)]
            for seed in range(30):
                some = some_letters(q, some_known(a, b, seed), seed)
                left = [cloth for cloth in cloths if standing_in(cloth, some)]
                had = [(wire, sign) for wire in wires(a, b) for sign in range(q)]
                slow = tuple([pair for pair in had if standing_in_all(left, pair)]) if left else None
                self.assertEqual(settled(plan, some), slow)

    def test_what_is_told_is_settled(self):
        for q, a, b in ((2, 3, 3), (3, 2, 2), (5, 1, 2)):
            plan = some_plan(q, a, b, seed=q)
            for seed in range(12):
                known = some_known(a, b, seed)
                cloth = all_cloths(plan)[seed * 5]
                some = tuple([(wire, letter(cloth, wire)) for wire in known])
                found = settled(plan, some)
                self.assertTrue({wire for wire, sign in found} >= set(told(a, b, known)))
                self.assertTrue(standing_in(cloth, found))
                self.assertEqual(found, tuple(sorted(set(found))))

    def test_none_where_there_is_no_cloth(self):
        plan = (2, (through(2),), 2, ((0, 0),))
        self.assertIsNone(settled(plan, ((("row", 0, 0), 0), (("row", 0, 2), 1))))
        self.assertEqual(settled(plan, ((("row", 0, 0), 1),)), tuple([(("row", 0, x), 1) for x in range(3)]))

    def test_no_letters_and_all_letters(self):
        for q, a, b in ((2, 2, 2), (3, 1, 2), (2, 0, 3), (7, 1, 1)):
            plan = some_plan(q, a, b)
            self.assertEqual(settled(plan, ()), ())
            cloth = all_cloths(plan)[-2]
            some = tuple([(wire, letter(cloth, wire)) for wire in wires(a, b)])
            self.assertEqual(settled(plan, some), some)
        self.assertEqual(settled((2, (through(2),), 0, ()), ()), ())

    def test_too_many(self):
        plan = some_plan(2, 5, 5)
        self.assertEqual(settled(plan, ()), ())
        pick = ((2,) * 5, (3,) * 5)
        self.assertEqual(len(settled(plan, some_letters(2, picked(pick), 1))), 60)
        for q, a, b in ((2, 6, 5), (4, 3, 3), (7, 4, 0), (7, 40, 40)):
            for some in ((), ((wires(a, b)[-1], 0),)):
                with self.assertRaises(TooMany) as caught:
                    settled(some_plan(q, a, b), some)
                self.assertEqual(caught.exception.many, q ** (a + b))


def standing_in_all(cloths, pair):
    return all(standing_in(cloth, (pair,)) for cloth in cloths)


if __name__ == "__main__":
    unittest.main()
