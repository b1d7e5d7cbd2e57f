import itertools
import unittest

from cornertold.plans import table_at
from cornertold.sheets import letter
from cornertold.tables import lifted, pushed, quad_by, through
from cornertold.threads import along, count_two, far_along, ways
from cornertold.wires import wires
from tests.samples import SIZES, all_cloths, mixed, orders, some_plan, some_tables

EXCHANGE = ((0, 1), (1, 0))
# Along a row it is not one which of these two stands ahead.
UNLIKE_IN_TURN = (pushed(3, ((1, 0, 2), (0, 1, 2), (0, 1, 2))), pushed(3, ((0, 2, 1), (0, 1, 2), (0, 1, 2))))


def one_by_one(q):
    return tuple([tuple([int(u == v) for v in range(q)]) for u in range(q)])


def along_by_the_words(plan, word, number, begin, end):
    """The grid, by sending each letter through each row of letters that come across."""
    q = plan[0]
    grid = [[0] * q for u in range(q)]
    for u in range(q):
        for across in itertools.product(range(q), repeat=end - begin):
            v = u
            for place, sign in zip(range(begin, end), across):
                if word == "row":
                    v = quad_by(table_at(plan, place, number), 0, v, sign)[2]
                else:
                    v = quad_by(table_at(plan, number, place), 0, sign, v)[3]
            grid[u][v] += 1
    return tuple(tuple(row) for row in grid)


def rests_by_the_words(p, tables, word, times):
    """The rests of the grid, by going through all tables all times."""
    q = len(ways(tables[0], word))
    grid = one_by_one(q)
    for table in tuple(tables) * times:
        step = ways(table, word)
        grid = tuple([tuple([sum(grid[u][t] * step[t][v] for t in range(q)) % p for v in range(q)]) for u in range(q)])
    return grid


class Ways(unittest.TestCase):
    def test_written_out(self):
        self.assertEqual(ways(through(2), "row"), ((2, 0), (0, 2)))
        self.assertEqual(ways(through(2), "column"), ((2, 0), (0, 2)))
        self.assertEqual(ways(pushed(2, EXCHANGE), "row"), ((1, 1), (1, 1)))
        self.assertEqual(ways(pushed(2, EXCHANGE), "column"), ((2, 0), (0, 2)))
        self.assertEqual(ways(lifted(2, EXCHANGE), "row"), ((2, 0), (0, 2)))
        self.assertEqual(ways(lifted(2, EXCHANGE), "column"), ((1, 1), (1, 1)))
        turns = ((1, 2, 0), (0, 1, 2), (0, 1, 2))
        self.assertEqual(ways(pushed(3, turns), "row"), ((2, 1, 0), (0, 2, 1), (1, 0, 2)))
        self.assertEqual(ways(lifted(3, turns), "column"), ((2, 1, 0), (0, 2, 1), (1, 0, 2)))

    def test_by_the_words_of_all_sorts_of_tables(self):
        for q in range(2, 8):
            for table in some_tables(q):
                for word, leg in (("row", 0), ("column", 1)):
                    grid = ways(table, word)
                    for u, v in itertools.product(range(q), repeat=2):
                        many = sum(quad[leg] == u and quad[leg + 2] == v for quad in table)
                        self.assertEqual(grid[u][v], many)
                    self.assertEqual({len(grid)} | {len(row) for row in grid}, {q})
                    self.assertEqual([sum(row) for row in grid], [q] * q)


class Along(unittest.TestCase):
    def test_by_the_words(self):
        for q, a, b in ((2, 1, 1), (2, 4, 3), (3, 3, 4), (4, 2, 2), (5, 3, 1), (7, 1, 2)):
            plan = some_plan(q, a, b, seed=a * q)
            for word, threads, last in (("row", b, a), ("column", a, b)):
                for number in range(threads):
                    for begin in range(last + 1):
                        for end in range(begin, last + 1):
                            so = along_by_the_words(plan, word, number, begin, end)
                            self.assertEqual(along(plan, word, number, begin, end), so)

    def test_the_way_from_the_first_letter_is_told_in_the_first_tuple(self):
        turns = ((1, 2, 0), (1, 2, 0), (1, 2, 0))
        plan = (3, (pushed(3, turns), lifted(3, turns), through(3)), 2, ((0, 2), (1, 1)))
        self.assertEqual(along(plan, "row", 0, 0, 1), ((0, 3, 0), (0, 0, 3), (3, 0, 0)))
        self.assertEqual(along(plan, "row", 0, 0, 2), ((0, 9, 0), (0, 0, 9), (9, 0, 0)))
        self.assertEqual(along(plan, "row", 0, 1, 2), ((3, 0, 0), (0, 3, 0), (0, 0, 3)))
        self.assertEqual(along(plan, "row", 1, 0, 2), ((9, 0, 0), (0, 9, 0), (0, 0, 9)))
        self.assertEqual(along(plan, "column", 1, 0, 2), ((0, 9, 0), (0, 0, 9), (9, 0, 0)))

    def test_tables_stand_one_behind_the_other(self):
        plan, exchanged = (3, UNLIKE_IN_TURN, 2, ((0, 1),)), (3, UNLIKE_IN_TURN, 2, ((1, 0),))
        self.assertEqual(along(plan, "row", 0, 0, 2), along_by_the_words(plan, "row", 0, 0, 2))
        self.assertEqual(along(exchanged, "row", 0, 0, 2), along_by_the_words(exchanged, "row", 0, 0, 2))
        self.assertNotEqual(along(plan, "row", 0, 0, 2), along(exchanged, "row", 0, 0, 2))

    def test_begin_and_end_the_same_wire(self):
        for q in range(2, 8):
            plan = some_plan(q, 3, 2)
            for word, number, place in wires(3, 2):
                self.assertEqual(along(plan, word, number, place, place), one_by_one(q))

    def test_no_threads_across(self):
        self.assertEqual(along(some_plan(4, 0, 2), "row", 1, 0, 0), one_by_one(4))
        self.assertEqual(along(some_plan(4, 2, 0), "column", 1, 0, 0), one_by_one(4))

    def test_of_forty(self):
        plan = (7, (mixed(7), through(7)), 40, ((0,) * 40, (1,) * 40) * 20)
        self.assertEqual(along(plan, "row", 0, 0, 40), ((7 ** 39,) * 7,) * 7)
        straight = tuple([tuple([7 ** 40 * (u == v) for v in range(7)]) for u in range(7)])
        self.assertEqual(along(plan, "row", 39, 0, 40), straight)
        varied = some_plan(6, 40, 40)
        for word in ("row", "column"):
            grid = along(varied, word, 39, 0, 40)
            self.assertEqual([sum(row) for row in grid], [6 ** 40] * 6)
            self.assertEqual(along(varied, word, 39, 38, 40), along_by_the_words(varied, word, 39, 38, 40))


class CountTwo(unittest.TestCase):
    def test_any_two_wires_by_looking_at_all_cloths(self):
        for q, a, b in ((2, 1, 1), (2, 2, 2), (2, 3, 2), (3, 2, 1), (3, 1, 2), (4, 1, 1), (2, 0, 3), (3, 3, 0), (2, 4, 1)):
            for seed in (1, 6):
                plan = some_plan(q, a, b, seed=seed)
                cloths = all_cloths(plan)
                for one, other in itertools.product(wires(a, b), repeat=2):
                    pairs = [(letter(cloth, one), letter(cloth, other)) for cloth in cloths]
                    for u, v in itertools.product(range(q), repeat=2):
                        self.assertEqual(count_two(plan, one, u, other, v), pairs.count((u, v)))

    def test_the_same_wire(self):
        for a, b in SIZES:
            plan = some_plan(5, a, b)
            for wire in wires(a, b):
                self.assertEqual(count_two(plan, wire, 3, wire, 3), 5 ** (a + b - 1))
                self.assertEqual(count_two(plan, wire, 3, wire, 4), 0)
                self.assertEqual(count_two(plan, wire, 4, wire, 3), 0)

    def test_one_thread_in_either_order(self):
        turns = ((1, 2, 0), (1, 2, 0), (1, 2, 0))
        plan = (3, (pushed(3, turns), lifted(3, turns)), 1, ((0,),))
        left, right = ("row", 0, 0), ("row", 0, 1)
        self.assertEqual(count_two(plan, left, 0, right, 1), 3)
        self.assertEqual(count_two(plan, right, 1, left, 0), 3)
        self.assertEqual(count_two(plan, left, 1, right, 0), 0)
        self.assertEqual(count_two(plan, right, 0, left, 1), 0)
        self.assertEqual(count_two(plan, right, 0, left, 2), 3)

    def test_of_forty(self):
        plan = some_plan(7, 40, 40)
        self.assertEqual(count_two(plan, ("row", 0, 40), 6, ("row", 39, 0), 0), 7 ** 78)
        self.assertEqual(count_two(plan, ("column", 39, 40), 6, ("row", 39, 40), 5), 7 ** 78)
        for one, other in ((("row", 7, 0), ("row", 7, 40)), (("column", 39, 21), ("column", 39, 20)),
                           (("row", 39, 40), ("row", 39, 40))):
            total = [count_two(plan, one, u, other, v) for u, v in itertools.product(range(7), repeat=2)]
            self.assertEqual(sum(total), 7 ** 80)


class FarAlong(unittest.TestCase):
    def test_few_times_by_the_words(self):
        for q in range(2, 8):
            tables = some_tables(q)
            for many in (1, 2, len(tables)):
                for word in ("row", "column"):
                    for times in (0, 1, 2, 3, 7, 12):
                        for p in (2, 97, 10 ** 9):
                            so = rests_by_the_words(p, tables[:many], word, times)
                            self.assertEqual(far_along(p, tables[:many], word, times), so)

    def test_no_times_and_one_time(self):
        for q in range(2, 8):
            tables = some_tables(q)
            numbers = tuple(range(len(tables)))
            row = (q, tables, len(tables), (numbers,))
            column = (q, tables, 1, tuple([(number,) for number in numbers]))
            for word, plan in (("row", row), ("column", column)):
                for p in (2, 3, 10 ** 9):
                    self.assertEqual(far_along(p, tables, word, 0), one_by_one(q))
                    grid = along(plan, word, 0, 0, len(tables))
                    self.assertEqual(far_along(p, tables, word, 1),
                                     tuple([tuple([many % p for many in counts]) for counts in grid]))

    def test_tables_one_behind_the_other_not_the_other_way(self):
        for times in (1, 2, 5):
            so = rests_by_the_words(10 ** 9, UNLIKE_IN_TURN, "row", times)
            self.assertEqual(far_along(10 ** 9, UNLIKE_IN_TURN, "row", times), so)
            self.assertNotEqual(far_along(10 ** 9, UNLIKE_IN_TURN[::-1], "row", times), so)

    def test_as_many_times_as_there_may_be(self):
        far = 10 ** 18
        for p in (2, 7, 10 ** 9, 999999937):
            for q in (2, 3, 7):
                straight = tuple([tuple([pow(q, far, p) * (u == v) for v in range(q)]) for u in range(q)])
                self.assertEqual(far_along(p, (through(q),), "row", far), straight)
                self.assertEqual(far_along(p, (through(q),) * 12, "column", far // 12),
                                 tuple([tuple([pow(q, far // 12 * 12, p) * (u == v) for v in range(q)])
                                        for u in range(q)]))
        self.assertEqual(far_along(999999937, (mixed(7),), "row", far), ((pow(7, far - 1, 999999937),) * 7,) * 7)
        self.assertEqual(far_along(10 ** 9, (mixed(7),) * 12, "row", far), ((pow(7, 12 * far - 1, 10 ** 9),) * 7,) * 7)

    def test_all_sums_of_twelve_tables_of_seven_letters(self):
        tables = (pushed(7, orders(7)), lifted(7, orders(7)), mixed(7)) * 4
        for p in (2, 10 ** 9, 10 ** 9 - 1):
            for word in ("row", "column"):
                grid = far_along(p, tables, word, 10 ** 18)
                for row in grid:
                    self.assertEqual(sum(row) % p, pow(7, 12 * 10 ** 18, p))
                    self.assertTrue(all(0 <= many < p for many in row))

    def test_far_is_near_twice(self):
        tables = some_tables(6)
        for word in ("row", "column"):
            whole = far_along(10 ** 9, tables, word, 10 ** 17 + 13)
            parts = far_along(10 ** 9, tables, word, 10 ** 17), far_along(10 ** 9, tables, word, 13)
            letters = range(6)
            self.assertEqual(whole, tuple([tuple([
                sum(parts[0][u][t] * parts[1][t][v] for t in letters) % 10 ** 9 for v in letters]) for u in letters]))


if __name__ == "__main__":
    unittest.main()
