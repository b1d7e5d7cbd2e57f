"""Promise 3, (e): letters changed, single changes that mend, and what corners bring to letters that are there in part."""

import unittest

from cornertold.breaks import broken, mends, put
from cornertold.closing import closed
from cornertold.counting import cloths_with
from cornertold.sheets import is_cloth, letter
from cornertold.wires import crossings_at, legs, wires
from tests.samples import SIZES, all_cloths, some_cloth, some_known, some_numbers, some_plan, some_sheet


def holed_with(a, b, some):
    """The sheet of holes with these letters."""
    sheet = (((None,) * (a + 1),) * b, ((None,) * (b + 1),) * a)
    for wire, sign in some:
        sheet = put(sheet, wire, sign)
    return sheet


class Broken(unittest.TestCase):
    def test_a_letter_changed_breaks_just_the_crossings_that_its_wire_touches(self):
        for q in range(2, 8):
            for a, b in SIZES:
                plan = some_plan(q, a, b, seed=q + a)
                cloth = some_cloth(plan, seed=b)
                for wire in wires(a, b):
                    touched = tuple([(i, j) for i in range(a) for j in range(b) if wire in legs(i, j)])
                    self.assertEqual(tuple(crossings_at(a, b, wire)), touched)
                    for sign in range(q):
                        there = () if sign == letter(cloth, wire) else touched
                        self.assertEqual(broken(plan, put(cloth, wire, sign)), there)

    def test_what_mends_makes_a_cloth_and_all_cloths_one_change_away_are_told(self):
        for q, a, b in ((2, 2, 2), (3, 2, 1), (3, 1, 1), (2, 0, 3), (2, 3, 1)):
            plan = some_plan(q, a, b, seed=1)
            cloths = all_cloths(plan)
            sheets = [some_sheet(q, a, b, seed=seed) for seed in range(60)]
            for cloth in cloths[::5]:
                sheets.extend([put(cloth, wire, q - 1) for wire in wires(a, b)])
            for sheet in sheets:
                found = mends(plan, sheet)
                made = [put(sheet, wire, sign) for wire, sign in found]
                for other in made:
                    self.assertIs(is_cloth(plan, other), True)
                unlike = [[wire for wire in wires(a, b) if letter(cloth, wire) != letter(sheet, wire)]
                          for cloth in cloths]
                near = [cloth for cloth, places in zip(cloths, unlike) if len(places) == 1]
                self.assertEqual(sorted(made), sorted(near))


class Closed(unittest.TestCase):
    def test_all_that_comes_is_so_in_all_cloths_or_there_is_none(self):
        for q, a, b in ((2, 2, 2), (2, 3, 2), (3, 2, 2), (2, 4, 1), (3, 0, 2)):
            plan = some_plan(q, a, b, seed=q)
            for seed in range(80):
                known = some_known(a, b, seed)
                some = tuple(zip(known, some_numbers(seed, len(known), q)))
                found = closed(plan, holed_with(a, b, some))
                cloths = cloths_with(plan, some)
                if found is None:
                    self.assertEqual(cloths, ())
                else:
                    for wire in wires(a, b):
                        if letter(found, wire) is not None:
                            self.assertTrue({letter(cloth, wire) for cloth in cloths} <= {letter(found, wire)})
                    self.assertEqual(closed(plan, found), found)

    def test_without_a_hole_it_is_a_cloth_or_none(self):
        for a, b in SIZES:
            plan = some_plan(2, a, b, seed=a)
            for seed in range(30):
                sheet = some_sheet(2, a, b, seed=seed)
                self.assertEqual(closed(plan, sheet), sheet if is_cloth(plan, sheet) else None)
                self.assertIs(broken(plan, sheet) == (), is_cloth(plan, sheet))


if __name__ == "__main__":
    unittest.main()
