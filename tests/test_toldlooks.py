import itertools
import unittest

from cornertold.sheets import letter
from cornertold.tables import lifted, pushed, through
from cornertold.told import steps, told
from cornertold.toldlooks import shows_parted, shows_told
from cornertold.weaving import cloth_at
from cornertold.wires import legs, wires
from tests.samples import ODD_THINGS, all_cloths, some_known, some_plan, spoiled

CORNER = (("column", 0, 0), ("column", 1, 0), ("row", 0, 0))


class ShowsTold(unittest.TestCase):
    def test_steps_show_what_is_told_and_nothing_else(self):
        for a, b in ((0, 0), (0, 2), (2, 0), (1, 1), (2, 1), (2, 2), (4, 3)):
            for seed in range(25):
                known = some_known(a, b, seed)
                paper = steps(a, b, known)
                reached = told(a, b, known)
                for wire in wires(a, b):
                    self.assertIs(shows_told(a, b, known, wire, paper), wire in reached)

    def test_by_no_step_at_all(self):
        for wire in wires(2, 1):
            self.assertIs(shows_told(2, 1, CORNER, wire, ()), wire in CORNER)
            self.assertIs(shows_told(2, 1, (), wire, ()), False)
            self.assertIs(shows_told(2, 1, wires(2, 1), wire, ()), True)

    def test_steps_that_bring_nothing_new(self):
        last = ("row", 0, 2)
        for paper in (((0, 0, 0), (1, 0, 0)), ((0, 0, 0), (0, 0, 0), (1, 0, 0)),
                      ((0, 0, 0), (0, 0, 1), (0, 0, 2), (0, 0, 3), (1, 0, 0), (1, 0, 3)),
                      ((0, 0, 0), (1, 0, 0), (0, 0, 2), (1, 0, 2))):
            self.assertIs(shows_told(2, 1, CORNER, last, paper), True)
        self.assertIs(shows_told(2, 1, wires(2, 1), last, ((1, 0, 2), (0, 0, 3))), True)

    def test_steps_ahead_of_their_time(self):
        last = ("row", 0, 2)
        for paper in (((1, 0, 0), (0, 0, 0)), ((1, 0, 0),), ((0, 0, 0), (1, 0, 1)), ((0, 0, 1), (1, 0, 0)),
                      ((0, 0, 2), (0, 0, 0), (1, 0, 0)), ((0, 0, 3), (0, 0, 0), (1, 0, 0))):
            self.assertIs(shows_told(2, 1, CORNER, last, paper), False)
        # A wire that is known does not help a paper with a step ahead of its time.
        self.assertIs(shows_told(2, 1, CORNER, CORNER[0], ((1, 0, 0),)), False)
        self.assertIs(shows_told(2, 1, CORNER, CORNER[0], ((0, 0, 0), (1, 0, 0), (0, 1, 0))), False)

    def test_too_few_steps(self):
        self.assertIs(shows_told(2, 1, CORNER, ("row", 0, 2), ((0, 0, 0),)), False)
        self.assertIs(shows_told(2, 1, CORNER, ("row", 0, 1), ((0, 0, 0),)), True)
        self.assertIs(shows_told(2, 1, CORNER, ("column", 0, 1), ((0, 0, 0),)), True)

    def test_each_leg_goes_with_the_next(self):
        for leg in range(4):
            places = legs(0, 0)
            known = tuple(sorted((places[leg], places[(leg + 1) % 4])))
            for tried in range(4):
                self.assertIs(shows_told(1, 1, known, places[(leg + 2) % 4], ((0, 0, tried),)), tried == leg)

    def test_numbers_beyond(self):
        every = wires(2, 3)
        for step in itertools.product(range(-2, 5), range(-2, 5), range(-2, 7)):
            i, j, leg = step
            there = 0 <= i < 2 and 0 <= j < 3 and 0 <= leg < 4
            self.assertIs(shows_told(2, 3, every, every[0], (step,)), there)
        for a, b in ((0, 2), (2, 0), (0, 0)):
            self.assertIs(shows_told(a, b, wires(a, b), ("row", 0, 0), ((0, 0, 0),)), False)

    def test_anything(self):
        for thing in ODD_THINGS:
            empty = type(thing) is tuple and len(thing) == 0
            self.assertIs(shows_told(2, 1, CORNER, CORNER[0], thing), empty)
            self.assertIs(shows_told(2, 1, CORNER, CORNER[0], (thing,)), False)
            self.assertIs(shows_told(2, 1, CORNER, CORNER[0], ((0, 0, 0), thing)), False)

    def test_spoiled(self):
        paper = ((0, 0, 0), (1, 0, 0))
        for wrong in spoiled(paper, lengths=False):
            self.assertIs(shows_told(2, 1, CORNER, ("row", 0, 2), wrong), False)
        for step in ((1, 0), (1, 0, 0, 0), (), (1,)):
            self.assertIs(shows_told(2, 1, CORNER, ("row", 0, 0), ((0, 0, 0), step)), False)


class ShowsParted(unittest.TestCase):
    def test_by_the_words_over_all_cloths_of_a_plan(self):
        plan = some_plan(2, 2, 1, seed=4)
        cloths = all_cloths(plan)
        every = wires(2, 1)
        for one, other in itertools.product(cloths, repeat=2):
            for seed in range(12):
                known = some_known(2, 1, seed)
                alike = all(letter(one, wire) == letter(other, wire) for wire in known)
                for wire in every:
                    so = alike and letter(one, wire) != letter(other, wire)
                    self.assertIs(shows_parted(2, 1, known, wire, (plan, one, other)), so)

    def test_written_out(self):
        plan = (2, (through(2),), 1, ((0,),))
        one, other = (((0, 0),), ((0, 0),)), (((0, 0),), ((1, 1),))
        known = (("row", 0, 0),)
        self.assertIs(shows_parted(1, 1, known, ("column", 0, 0), (plan, one, other)), True)
        self.assertIs(shows_parted(1, 1, known, ("column", 0, 1), (plan, other, one)), True)
        self.assertIs(shows_parted(1, 1, known, ("row", 0, 1), (plan, one, other)), False)
        self.assertIs(shows_parted(1, 1, known, ("row", 0, 0), (plan, one, other)), False)
        self.assertIs(shows_parted(1, 1, (("column", 0, 1),), ("column", 0, 0), (plan, one, other)), False)
        self.assertIs(shows_parted(1, 1, (), ("column", 0, 0), (plan, one, one)), False)

    def test_without_threads_across(self):
        plan = (5, (through(5),), 0, ((), ()))
        paper = (plan, (((4,), (1,)), ()), (((4,), (3,)), ()))
        self.assertIs(shows_parted(0, 2, (("row", 0, 0),), ("row", 1, 0), paper), True)
        self.assertIs(shows_parted(0, 2, (), ("row", 0, 0), paper), False)

    def test_any_letters_of_just_that_size(self):
        for q in range(2, 8):
            plan = some_plan(q, 2, 1, seed=q)
            one, other = cloth_at(plan, 0), cloth_at(plan, q ** 3 - 1)
            self.assertIs(shows_parted(2, 1, (), ("row", 0, 0), (plan, one, other)), True)
            self.assertIs(shows_parted(1, 1, (), ("row", 0, 0), (plan, one, other)), False)
            self.assertIs(shows_parted(2, 2, (), ("row", 0, 0), (plan, one, other)), False)
            self.assertIs(shows_parted(1, 2, (), ("row", 0, 0), (plan, one, other)), False)

    def test_both_have_to_be_cloths_of_that_plan(self):
        turns = ((0, 1), (1, 0))
        plan = (2, (pushed(2, turns),), 1, ((0,),))
        one, other = cloth_at(plan, 0), cloth_at(plan, 3)
        wire = ("row", 0, 0)
        self.assertIs(shows_parted(1, 1, (), wire, (plan, one, other)), True)
        odd = (((1, 1), ), ((1, 1), ))
        self.assertIs(shows_parted(1, 1, (), wire, (plan, one, odd)), False)
        self.assertIs(shows_parted(1, 1, (), wire, (plan, odd, one)), False)
        lifting = (2, (lifted(2, turns),), 1, ((0,),))
        self.assertIs(shows_parted(1, 1, (), wire, (lifting, one, other)), False)
        eight = (8, (through(8),), 1, ((0,),))
        self.assertIs(shows_parted(1, 1, (), wire, (eight, one, odd)), False)

    def test_anything(self):
        plan = some_plan(2, 1, 1)
        one, other = cloth_at(plan, 0), cloth_at(plan, 3)
        for thing in ODD_THINGS:
            for paper in (thing, (thing, thing, thing), (thing, one, other), (plan, thing, other), (plan, one, thing)):
                self.assertIs(shows_parted(1, 1, (), ("row", 0, 0), paper), False)

    def test_spoiled(self):
        plan = (2, (pushed(2, ((0, 1), (1, 0))), through(2)), 1, ((1,),))
        paper = (plan, (((0, 0),), ((1, 1),)), (((1, 1),), ((1, 1),)))
        known = (("column", 0, 1),)
        self.assertIs(shows_parted(1, 1, known, ("row", 0, 1), paper), True)
        wrong_ones = list(spoiled(paper, lengths=False))
        wrong_ones.extend([paper[:2], paper + (0,), paper[1:], (paper,), paper + paper, (plan[:3],) + paper[1:]])
        wrong_ones.extend([(plan, wrong, paper[2]) for wrong in spoiled(paper[1])])
        wrong_ones.extend([(plan, paper[1], wrong) for wrong in spoiled(paper[2])])
        for wrong in wrong_ones:
            self.assertIs(shows_parted(1, 1, known, ("row", 0, 1), wrong), False)


if __name__ == "__main__":
    unittest.main()
