"""Promise 3, as far as it speaks of cloths filled from picks and of how many there are."""

import itertools
import unittest

from cornertold.counting import cloths_with, count_on, settled
from cornertold.errors import Milled, OneThread
from cornertold.filling import ends_at, filled
from cornertold.mills import mill
from cornertold.pickings import count_picks, pick_with
from cornertold.picks import picked
from cornertold.sheets import is_cloth, letter
from cornertold.tables import tables_of_two
from cornertold.threads import along, count_two, far_along
from cornertold.told import told
from cornertold.weaving import count_cloths, number_of
from cornertold.wires import wires
from tests.samples import SMALL_SIZES, all_cloths, all_picks, some_known, some_numbers, some_pick, some_plan


def letters_on(cloth, chosen):
    return tuple([(wire, letter(cloth, wire)) for wire in chosen])


class Picks(unittest.TestCase):
    """(b)"""

    def test_to_whatever_letters_there_is_just_one_cloth(self):
        for q, a, b in ((2, 2, 2), (3, 1, 2), (3, 2, 1), (2, 3, 1), (2, 0, 3), (3, 2, 0)):
            plan = some_plan(q, a, b, seed=8)
            for pick in all_picks(a, b):
                if mill(pick) is not None:
                    continue
                cloths = [filled(plan, pick, (letters[:b], letters[b:]))
                          for letters in itertools.product(range(q), repeat=a + b)]
                self.assertEqual(sorted(number_of(plan, cloth) for cloth in cloths), list(range(count_cloths(plan))))

    def test_of_each_plan_of_two_letters(self):
        tables = tables_of_two()
        for one, other in itertools.product(range(12), repeat=2):
            plan = (2, tables, 2, ((one, other),))
            for pick in list(all_picks(2, 1))[::2]:
                for cloth in all_cloths(plan)[1::3]:
                    self.assertEqual(filled(plan, pick, ends_at(cloth, pick)), cloth)
                    self.assertEqual(cloths_with(plan, letters_on(cloth, picked(pick))), (cloth,))

    def test_a_pick_with_a_mill_is_refused_by_all_that_fills_or_counts(self):
        plan = some_plan(2, 3, 3)
        for pick in all_picks(3, 3):
            if mill(pick) is not None:
                for refused in (lambda: filled(plan, pick, ((0,) * 3, (0,) * 3)), lambda: count_on(plan, pick, ())):
                    with self.assertRaises(Milled) as caught:
                        refused()
                    self.assertEqual(caught.exception.mill, mill(pick))

    def test_as_many_picks_tell_all_as_are_counted(self):
        for a, b in SMALL_SIZES[:-1]:
            telling = [pick for pick in all_picks(a, b) if told(a, b, picked(pick)) == wires(a, b)]
            self.assertEqual(len(telling), count_picks(a, b))

    def test_the_same_cloth_from_any_pick(self):
        for q, a, b in ((2, 9, 9), (5, 6, 8), (7, 12, 3)):
            plan = some_plan(q, a, b, seed=a)
            letters = some_numbers(q, a + b, q)
            cloth = filled(plan, ((a // 2,) * b, (b // 2,) * a), (letters[:b], letters[b:]))
            self.assertIs(is_cloth(plan, cloth), True)
            for seed in range(30):
                pick = some_pick(a, b, seed)
                if mill(pick) is None:
                    self.assertEqual(filled(plan, pick, ends_at(cloth, pick)), cloth)


class Counted(unittest.TestCase):
    """(c)"""

    def test_letters_on_some_wires_of_a_pick_leave_the_others_free(self):
        for q, a, b in ((2, 2, 2), (2, 3, 2), (3, 2, 1)):
            plan = some_plan(q, a, b, seed=a + q)
            for at, pick in enumerate(list(all_picks(a, b))[::11]):
                if mill(pick) is not None:
                    continue
                for many in range(a + b + 1):
                    choices = list(itertools.combinations(picked(pick), many))
                    some = tuple(zip(choices[at % len(choices)], some_numbers(at, many, q)))
                    self.assertEqual(len(cloths_with(plan, some)), q ** (a + b - many))
                    self.assertEqual(count_on(plan, pick, some), q ** (a + b - many))

    def test_any_two_wires_of_unlike_threads_stand_on_such_a_pick(self):
        for q, a, b in ((2, 2, 2), (3, 2, 1), (3, 1, 2), (2, 0, 3), (2, 3, 2)):
            plan = some_plan(q, a, b, seed=b)
            for one, other in itertools.permutations(wires(a, b), 2):
                if one[:2] == other[:2]:
                    with self.assertRaises(OneThread):
                        pick_with(a, b, one, other)
                    continue
                pick = pick_with(a, b, one, other)
                for u, v in itertools.product(range(q), repeat=2):
                    some = tuple(sorted([(one, u), (other, v)]))
                    self.assertEqual(count_on(plan, pick, some), q ** (a + b - 2))
                    self.assertEqual(count_two(plan, one, u, other, v), q ** (a + b - 2))
                some = tuple(sorted([(one, q - 1), (other, 0)]))
                self.assertEqual(len(cloths_with(plan, some)), q ** (a + b - 2))

    def test_two_wires_of_one_thread_by_small_tables_along_it(self):
        for q, a, b in ((2, 3, 2), (3, 2, 2), (5, 2, 1)):
            plan = some_plan(q, a, b, seed=q)
            for one, other in itertools.product(wires(a, b), repeat=2):
                if one[:2] == other[:2] and one[2] <= other[2]:
                    grid = along(plan, one[0], one[1], one[2], other[2])
                    free = q ** (a + b - 1 - (other[2] - one[2]))
                    for u, v in itertools.product(range(q), repeat=2):
                        self.assertEqual(count_two(plan, one, u, other, v), grid[u][v] * free)
                        self.assertEqual(count_two(plan, other, v, one, u), grid[u][v] * free)
                    if one != other:
                        some = ((one, 0), (other, 1))
                        self.assertEqual(len(cloths_with(plan, some)), grid[0][1] * free)

    def test_the_same_tables_again_and_again(self):
        tables = some_plan(3, 1, 1)[1]
        for word in ("row", "column"):
            for times in range(6):
                numbers = (1, 6, 4) * times
                plan = (3, tables, len(numbers), (numbers,)) if word == "row" else (
                    3, tables, 1, tuple([(number,) for number in numbers]))
                grid = along(plan, word, 0, 0, len(numbers))
                so = tuple([tuple([many % 1000 for many in row]) for row in grid])
                self.assertEqual(far_along(1000, (tables[1], tables[6], tables[4]), word, times), so)


class Told(unittest.TestCase):
    """(a), of letters."""

    def test_settled_is_all_that_is_told_and_letters_that_these_tables_bring(self):
        for q, a, b in ((2, 3, 2), (3, 2, 2)):
            plan = some_plan(q, a, b, seed=2)
            cloth = all_cloths(plan)[-3]
            for seed in range(20):
                known = some_known(a, b, seed)
                found = settled(plan, letters_on(cloth, known))
                self.assertTrue(set(letters_on(cloth, told(a, b, known))) <= set(found))
                self.assertTrue(set(found) <= set(letters_on(cloth, wires(a, b))))


if __name__ == "__main__":
    unittest.main()
