"""Promise 21: holed sheets, and all that corners bring to them."""

import itertools
import unittest

from cornertold.closing import closed, is_holed
from cornertold.plans import size, table_at
from cornertold.sheets import is_sheet, letter
from cornertold.tables import pushed, quad_by, through
from cornertold.told import told
from cornertold.wires import legs, wires
from tests.samples import (
    FORTY_SIZES, ODD_THINGS, SIZES, all_sheets, changed, nested, some_cloth, some_known, some_numbers, some_plan,
    some_sheet, spoiled)

STRAIGHT = (2, (through(2),), 2, ((0, 0), (0, 0)))
PUSHED = (2, (pushed(2, ((0, 1), (1, 0))),), 1, ((0,),))
HOLES = (((None,) * 3,) * 2, ((None,) * 3,) * 2)


def holes(a, b):
    return (((None,) * (a + 1),) * b, ((None,) * (b + 1),) * a)


def with_holes(sheet, kept):
    """The sheet with its letters on the kept wires alone."""
    a, b = len(sheet[1]), len(sheet[0])
    for wire in wires(a, b):
        if wire not in kept:
            sheet = changed(sheet, wire, None)
    return sheet


def plugged(thing, depth=0):
    """The thing with 0 in the place of each None that stands where a letter may stand."""
    if depth == 3:
        return 0 if thing is None else thing
    if isinstance(thing, tuple):
        return tuple([plugged(part, depth + 1) for part in thing])
    return thing


def all_holed(q, a, b):
    for sheet in all_sheets(q + 1, a, b):
        yield tuple([tuple([tuple([None if sign == q else sign for sign in thread]) for thread in threads])
                     for threads in sheet])


def closed_by_the_words(plan, holed):
    """All crossings and legs looked at again and again until nothing new comes."""
    a, b = size(plan)
    every = wires(a, b)
    held = {wire: {letter(holed, wire)} - {None} for wire in every}
    many = -1
    while many != sum(map(len, held.values())):
        many = sum(map(len, held.values()))
        for i, j, leg in itertools.product(range(a), range(b), range(4)):
            places = legs(i, j)
            for one, other in list(itertools.product(held[places[leg]], held[places[(leg + 1) % 4]])):
                for place, sign in zip(places, quad_by(table_at(plan, i, j), leg, one, other)):
                    held[place].add(sign)
    if any(len(signs) > 1 for signs in held.values()):
        return None
    for wire in every:
        for sign in held[wire]:
            holed = changed(holed, wire, sign)
    return holed


class IsHoled(unittest.TestCase):
    def test_sheets_without_a_hole(self):
        for q in range(2, 8):
            for a, b in SIZES + FORTY_SIZES:
                self.assertIs(is_holed(q, a, b, some_sheet(q, a, b)), True)

    def test_of_holes_alone_and_with_one_letter(self):
        for a, b in SIZES + FORTY_SIZES:
            self.assertIs(is_holed(2, a, b, holes(a, b)), True)
            for wire in wires(a, b)[::97] + wires(a, b)[-1:]:
                self.assertIs(is_holed(5, a, b, changed(holes(a, b), wire, 4)), True)
                self.assertIs(is_holed(4, a, b, changed(holes(a, b), wire, 4)), False)

    def test_of_another_size(self):
        for a, b in itertools.product(range(4), repeat=2):
            for width, height in itertools.product(range(4), repeat=2):
                self.assertIs(is_holed(2, width, height, holes(a, b)), (a, b) == (width, height))

    def test_wrong_things_in_any_place(self):
        for a, b in ((0, 0), (0, 2), (2, 0), (1, 1), (2, 1), (2, 2)):
            sheet = some_sheet(3, a, b)
            answers = []
            for wrong in spoiled(sheet):
                answers.append(is_holed(3, a, b, wrong))
                self.assertIs(answers[-1], is_sheet(3, a, b, plugged(wrong)))
            self.assertEqual(answers.count(True), len(wires(a, b)))

    def test_wrong_things_beside_holes(self):
        for wrong in (True, False, -1, 2, 10 ** 30, "-", "", "None", "0", b"", (), (None,), [None], (0,), [], {},
                      nested(tuple), nested(list), Ellipsis, object()):
            for wire in wires(2, 2):
                self.assertIs(is_holed(2, 2, 2, changed(HOLES, wire, wrong)), False)

    def test_anything(self):
        for a, b in ((0, 1), (1, 0), (1, 1), (2, 2)):
            for thing in ODD_THINGS:
                self.assertIs(is_holed(2, a, b, thing), False)
        self.assertEqual(len([thing for thing in ODD_THINGS if is_holed(2, 0, 0, thing)]), 1)

    def test_lists_and_parts_more_and_fewer(self):
        rows, columns = HOLES
        for wrong in (list(HOLES), (list(rows), columns), (rows, list(columns)), (rows, columns, ()), (rows,),
                      ((list(rows[0]), rows[1]), columns), (rows + rows, columns), (rows[:1], columns),
                      (rows, columns + ((),)), (rows, (columns[0], columns[1] + (None,))),
                      ((rows[0][:2], rows[1]), columns), (None, columns), (rows, None), ((None, None), columns)):
            self.assertIs(is_holed(2, 2, 2, wrong), False)


class Closed(unittest.TestCase):
    def test_nothing_comes_to_holes_alone_or_to_one_letter(self):
        for a, b in SIZES:
            plan = some_plan(3, a, b)
            self.assertEqual(closed(plan, holes(a, b)), holes(a, b))
            for wire in wires(a, b):
                alone = changed(holes(a, b), wire, 2)
                self.assertEqual(closed(plan, alone), alone)

    def test_a_cloth_stays_and_a_broken_sheet_has_no_answer(self):
        for q in range(2, 8):
            for a, b in SIZES:
                plan = some_plan(q, a, b, seed=q)
                cloth = some_cloth(plan)
                self.assertEqual(closed(plan, cloth), cloth)
                for wire in wires(a, b)[::3]:
                    other = changed(cloth, wire, (letter(cloth, wire) + 1) % q)
                    self.assertEqual(closed(plan, other), None if a * b > 0 else other)

    def test_each_two_neighbouring_legs_bring_the_quad(self):
        self.assertEqual(closed(PUSHED, (((1, None),), ((1, None),))), (((1, 0),), ((1, 1),)))
        self.assertEqual(closed(PUSHED, (((None, 0),), ((1, None),))), (((1, 0),), ((1, 1),)))
        self.assertEqual(closed(PUSHED, (((None, 0),), ((None, 1),))), (((1, 0),), ((1, 1),)))
        self.assertEqual(closed(PUSHED, (((1, None),), ((None, 1),))), (((1, 0),), ((1, 1),)))

    def test_two_legs_across_bring_nothing(self):
        for one, other in itertools.product(range(2), repeat=2):
            for sheet in ((((one, other),), ((None, None),)), (((None, None),), ((one, other),))):
                self.assertEqual(closed(PUSHED, sheet), sheet)

    def test_none_where_unlike_letters_come_to_one_wire(self):
        self.assertIsNone(closed(PUSHED, (((1, 1),), ((1, None),))))
        self.assertIsNone(closed(PUSHED, (((None, 1),), ((1, 0),))))
        self.assertIsNone(closed(PUSHED, (((1, 1),), ((1, 1),))))
        self.assertIsNone(closed(PUSHED, (((1, 0),), ((1, 0),))))
        self.assertEqual(closed(PUSHED, (((1, 0),), ((1, None),))), (((1, 0),), ((1, 1),)))

    def test_none_where_unlike_letters_come_from_two_crossings(self):
        rows = ((None, 0, None, 1, None),)
        columns = ((None, None), (0, None), (0, None), (None, None))
        plan = (2, (through(2),), 4, ((0, 0, 0, 0),))
        self.assertIsNone(closed(plan, (rows, columns)))
        agreeing = ((None, 0, None, 0, None),)
        self.assertEqual(closed(plan, (agreeing, columns)),
                         (((None, 0, 0, 0, None),), ((None, None), (0, 0), (0, 0), (None, None))))
        between = (((0, None, 1),), ((0, None), (None, 1)))
        self.assertIsNone(closed((2, (through(2),), 2, ((0, 0),)), between))

    def test_as_far_as_it_goes(self):
        sheet = (((1, None, None), (None, None, None)), ((1, None, None), (None, None, None)))
        self.assertEqual(closed(STRAIGHT, sheet), (((1, 1, None), (None,) * 3), ((1, 1, None), (None,) * 3)))
        from_two = (((1, None, None), (None, None, 0)), ((1, None, None), (None, None, 0)))
        self.assertEqual(closed(STRAIGHT, from_two), (((1, 1, 1), (0, 0, 0)), ((1, 1, 1), (0, 0, 0))))
        from_a_corner = (((1, None, None), (0, None, None)), ((1, None, None), (0, None, None)))
        self.assertEqual(closed(STRAIGHT, from_a_corner), (((1, 1, 1), (0, 0, 0)), ((1, 1, 1), (0, 0, 0))))

    def test_all_holed_sheets_of_small_sizes(self):
        for q, a, b in ((2, 1, 1), (3, 1, 1), (2, 2, 1), (2, 1, 2), (2, 0, 2), (2, 3, 0), (2, 0, 0)):
            plan = some_plan(q, a, b, seed=5)
            for holed in all_holed(q, a, b):
                self.assertEqual(closed(plan, holed), closed_by_the_words(plan, holed))

    def test_some_holed_sheets(self):
        for q, a, b in ((2, 2, 2), (3, 3, 2), (2, 2, 3), (5, 3, 3)):
            for seed in range(60):
                plan = some_plan(q, a, b, seed=seed)
                cloth = some_cloth(plan, seed=seed)
                holed = with_holes(cloth, some_known(a, b, seed))
                self.assertEqual(closed(plan, holed), closed_by_the_words(plan, holed))
                wire = wires(a, b)[some_numbers(seed, 1, len(wires(a, b)))[0]]
                other = changed(holed, wire, seed % q)
                self.assertEqual(closed(plan, other), closed_by_the_words(plan, other))

    def test_of_a_cloth_just_what_is_told_comes(self):
        for a, b in SIZES + ((5, 6), (40, 7)):
            plan = some_plan(3, a, b, seed=a)
            cloth = some_cloth(plan)
            for seed in range(12):
                known = some_known(a, b, seed)
                holed = with_holes(cloth, set(known))
                self.assertEqual(closed(plan, holed), with_holes(cloth, set(told(a, b, known))))

    def test_of_forty(self):
        plan = some_plan(7, 40, 40, seed=2)
        cloth = some_cloth(plan)
        ends = {("row", j, 40) for j in range(40)} | {("column", i, 40) for i in range(40)}
        self.assertEqual(closed(plan, with_holes(cloth, ends)), cloth)
        self.assertEqual(closed(plan, cloth), cloth)
        fewer = with_holes(cloth, ends - {("row", 39, 40)})
        self.assertEqual(closed(plan, fewer), fewer)
        far = changed(with_holes(cloth, ends), ("column", 0, 0), (letter(cloth, ("column", 0, 0)) + 1) % 7)
        self.assertIsNone(closed(plan, far))
        self.assertEqual(closed(some_plan(2, 40, 0), holes(40, 0)), holes(40, 0))


if __name__ == "__main__":
    unittest.main()
