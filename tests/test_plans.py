import unittest

from cornertold.plans import is_plan, size, table_at
from cornertold.tables import through
from tests.samples import ODD_THINGS, SIZES, mixed, some_plan, some_tables, spoiled


def even_plan(a, b):
    return (2, (through(2),), a, ((0,) * a,) * b)


class IsPlan(unittest.TestCase):
    def test_plans_of_all_letters_and_sizes(self):
        for q in range(2, 8):
            for a, b in SIZES:
                self.assertIs(is_plan(some_plan(q, a, b)), True)

    def test_letters_beyond(self):
        for q in (-1, 0, 1, 8, 10 ** 30):
            self.assertIs(is_plan((q, (through(2),), 0, ())), False)
        for q in (1, 8):
            self.assertIs(is_plan((q, (through(q),), 1, ((0,),))), False)

    def test_forty_columns_and_rows_at_most(self):
        for a, b in ((0, 0), (40, 0), (0, 40), (40, 40)):
            self.assertIs(is_plan(even_plan(a, b)), True)
        for a, b in ((41, 0), (0, 41), (41, 40), (40, 41)):
            self.assertIs(is_plan(even_plan(a, b)), False)

    def test_rows_have_as_many_numbers_as_there_are_columns(self):
        for a in range(4):
            for length in range(4):
                self.assertIs(is_plan((2, (through(2),), a, ((0,) * a, (0,) * length))), a == length)
        self.assertIs(is_plan((2, (through(2),), -1, ())), False)

    def test_one_to_twelve_tables_perhaps_alike(self):
        for many in range(15):
            self.assertIs(is_plan((3, (mixed(3),) * many, 0, ())), 1 <= many <= 12)
        self.assertIs(is_plan((2, some_tables(2), 1, ((11,),))), True)
        self.assertIs(is_plan((2, some_tables(2), 1, ((12,),))), False)
        self.assertIs(is_plan((2, some_tables(2), 1, ((-1,),))), False)

    def test_tables_of_other_letters(self):
        self.assertIs(is_plan((3, (through(2),), 0, ())), False)
        self.assertIs(is_plan((2, (through(2), through(3)), 0, ())), False)

    def test_anything(self):
        for thing in ODD_THINGS:
            self.assertIs(is_plan(thing), False)

    def test_spoiled_plans(self):
        plan = (2, some_tables(2)[:2], 2, ((0, 1), (1, 1)))
        for wrong in spoiled(plan, lengths=False):
            self.assertIs(is_plan(wrong), False)
        q, tables, a, rows = plan
        for wrong in (plan[:3], plan + (0,), (q, tables[:1], a, rows), (q, (), a, rows), (q, tables, a, rows + (0,)),
                      (q, tables, a, rows + ((),)), (q, tables + ((),), a, rows), (q, tables[0], a, rows)):
            self.assertIs(is_plan(wrong), False)
        self.assertIs(is_plan((q, tables, a, rows[:1])), True)


class Asked(unittest.TestCase):
    def test_size_is_columns_then_rows(self):
        for a, b in SIZES + ((40, 40), (0, 40), (40, 0)):
            self.assertEqual(size(even_plan(a, b)), (a, b))

    def test_table_at_takes_the_column_first_rows_from_below(self):
        one, two, three, four = some_tables(2)[:4]
        plan = (2, (one, two, three, four), 3, ((0, 1, 2), (3, 3, 0)))
        self.assertEqual([table_at(plan, i, 0) for i in range(3)], [one, two, three])
        self.assertEqual([table_at(plan, i, 1) for i in range(3)], [four, four, one])


if __name__ == "__main__":
    unittest.main()
