import itertools
import unittest

from cornertold.errors import Milled
from cornertold.orders import order, shows_order
from tests.samples import (
    FORTY_SIZES, MILLED_BACK, MILLED_FORTH, ODD_THINGS, SIZES, SMALL_SIZES, all_picks, mills_by_the_words, some_pick,
    spoiled)


def wanted_by_the_words(pick, i, j):
    """The crossings whose letters crossing (i, j) wants."""
    xs, ys = pick
    across = {i - 1} if xs[j] < i else {i + 1} if xs[j] > i + 1 else set()
    along = {j - 1} if ys[i] < j else {j + 1} if ys[i] > j + 1 else set()
    return {(k, j) for k in across} | {(i, l) for l in along}


def is_order_by_the_words(pick, crossings):
    xs, ys = pick
    if sorted(crossings) != sorted(itertools.product(range(len(ys)), range(len(xs)))):
        return False
    return all(wanted_by_the_words(pick, *crossing) <= set(crossings[:at]) for at, crossing in enumerate(crossings))


class Order(unittest.TestCase):
    def look_at(self, pick):
        mills = mills_by_the_words(pick)
        if mills:
            with self.assertRaises(Milled) as caught:
                order(pick)
            self.assertEqual(caught.exception.mill, mills[0])
        else:
            taken = order(pick)
            self.assertIs(type(taken), tuple)
            self.assertTrue(is_order_by_the_words(pick, taken))
            self.assertIs(shows_order(pick, taken), True)
            self.assertEqual(order(pick), taken)

    def test_all_picks_of_small_sizes(self):
        for a, b in SMALL_SIZES + ((4, 2), (2, 4), (4, 1), (1, 4)):
            for pick in all_picks(a, b):
                self.look_at(pick)

    def test_some_picks(self):
        for a, b in SIZES + ((5, 5), (7, 4), (4, 9), (9, 9)):
            for seed in range(40):
                self.look_at(some_pick(a, b, seed))

    def test_without_crossings(self):
        for k in (0, 1, 2, 40):
            self.assertEqual(order(((0,) * k, ())), ())
            self.assertEqual(order(((), (0,) * k)), ())

    def test_of_forty(self):
        for a, b in FORTY_SIZES:
            for x, y in ((0, 0), (a, 0), (0, b), (a, b), (a // 2, b // 3)):
                pick = ((x,) * b, (y,) * a)
                taken = order(pick)
                self.assertEqual(len(taken), a * b)
                self.assertIs(shows_order(pick, taken), True)
        # Each crossing here wants the one ahead in a long row of turns.
        pick = (tuple(range(40)), (20,) * 40)
        self.assertTrue(is_order_by_the_words(pick, order(pick)))

    def test_milled_with_just_the_least_mill(self):
        for pick, least in ((MILLED_FORTH, (0, 1, 0, 1, 1)), (MILLED_BACK, (0, 1, 0, 1, -1)),
                            (((0, 3, 0), (3, 0, 0)), (0, 1, 0, 1, 1)),
                            (((0,) * 39 + (40,), (40,) * 39 + (0,)), (0, 39, 0, 39, 1))):
            with self.assertRaises(Milled) as caught:
                order(pick)
            self.assertEqual(caught.exception.mill, least)


class ShowsOrder(unittest.TestCase):
    def test_all_orders_of_small_picks_by_the_words(self):
        for a, b in ((0, 0), (0, 2), (2, 0), (1, 1), (2, 1), (1, 2), (1, 3), (3, 1), (2, 2)):
            orders = list(itertools.permutations(itertools.product(range(a), range(b))))
            for pick in all_picks(a, b):
                shown = [thing for thing in orders if shows_order(pick, thing)]
                self.assertEqual(shown, [thing for thing in orders if is_order_by_the_words(pick, thing)])
                self.assertEqual(shown == [], mills_by_the_words(pick) != [])

    def test_crossings_exchanged_in_an_order(self):
        for a, b in ((3, 3), (4, 2)):
            for seed in range(12):
                pick = some_pick(a, b, seed)
                if mills_by_the_words(pick):
                    continue
                taken = order(pick)
                for one, other in itertools.combinations(range(a * b), 2):
                    exchanged = list(taken)
                    exchanged[one], exchanged[other] = taken[other], taken[one]
                    so = is_order_by_the_words(pick, exchanged)
                    self.assertIs(shows_order(pick, tuple(exchanged)), so)

    def test_twice_lacking_beyond_ahead_of_its_time(self):
        pick = ((0, 0), (0, 0))
        self.assertIs(shows_order(pick, ((0, 0), (0, 1), (1, 0), (1, 1))), True)
        for wrong in (
                ((0, 0), (0, 1), (1, 0), (1, 0)), ((0, 0), (0, 0), (0, 1), (1, 0)),
                ((0, 0), (0, 1), (1, 0), (1, 1), (1, 1)), ((0, 0), (0, 0), (0, 1), (1, 0), (1, 1)),
                ((0, 0), (0, 1), (1, 0)), ((0, 1), (1, 0), (1, 1)), (),
                ((0, 0), (0, 1), (1, 0), (1, 1), (2, 0)), ((0, 0), (0, 1), (1, 0), (2, 0)),
                ((0, 0), (0, 1), (1, 0), (0, 2)), ((0, 0), (0, 1), (1, 0), (-1, -1)), ((0, 0), (0, 1), (1, 0), (1, -1)),
                ((0, 0), (0, 1), (1, 1), (1, 0)), ((1, 1), (1, 0), (0, 1), (0, 0)), ((0, 1), (0, 0), (1, 0), (1, 1))):
            self.assertIs(shows_order(pick, wrong), False)

    def test_no_order_where_there_is_a_mill(self):
        for pick in (MILLED_FORTH, MILLED_BACK):
            for thing in itertools.permutations(((0, 0), (0, 1), (1, 0), (1, 1))):
                self.assertIs(shows_order(pick, thing), False)

    def test_anything(self):
        for thing in ODD_THINGS:
            empty = type(thing) is tuple and len(thing) == 0
            self.assertIs(shows_order(((), ()), thing), empty)
            self.assertIs(shows_order(((0, 0), ()), thing), empty)
            self.assertIs(shows_order(((0,), (0,)), thing), False)
            self.assertIs(shows_order(((0,), (0,)), (thing,)), False)
            self.assertIs(shows_order(((0,), (0,)), ((thing, thing),)), type(thing) is int and thing == 0)
            self.assertIs(shows_order(((0,), (0, 0)), ((0, 0), thing)), False)

    def test_spoiled(self):
        for pick, thing in ((((0,), (0, 0)), ((0, 0), (1, 0))), (((1, 1), (1, 1)), ((0, 0), (0, 1), (1, 0), (1, 1)))):
            self.assertIs(shows_order(pick, thing), True)
            for wrong in spoiled(thing):
                self.assertIs(shows_order(pick, wrong), False)


if __name__ == "__main__":
    unittest.main()
