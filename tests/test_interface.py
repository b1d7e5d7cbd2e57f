"""Promise 2: names, arguments, kinds of values, nothing changed, the same told again."""

import copy
import importlib
import inspect
import unittest

from cornertold import (
    breaks, closing, counting, filling, flipping, mills, orders, parted, pickings, picks, plans, reading, sheets, showing,
    tables, threads, told, toldlooks, turning, weaving, wires)
from cornertold.desk import Desk
from cornertold.house import House
from tests import samples
from tests.samples import MILLED_FORTH, nested, some_cloth, some_plan, some_tables

INTERFACE = {
    "tables": {
        "is_table": ["q", "thing"], "quad_by": ["table", "leg", "one", "other"], "turned": ["table"],
        "flipped": ["table"], "through": ["q"], "pushed": ["q", "turns"], "lifted": ["q", "turns"],
        "tables_of_two": [],
    },
    "plans": {"is_plan": ["thing"], "size": ["plan"], "table_at": ["plan", "i", "j"]},
    "wires": {"is_wire": ["a", "b", "thing"], "wires": ["a", "b"], "legs": ["i", "j"]},
    "sheets": {"is_sheet": ["q", "a", "b", "thing"], "is_cloth": ["plan", "thing"], "letter": ["sheet", "wire"]},
    "weaving": {
        "woven": ["plan", "corner", "ends"], "count_cloths": ["plan"], "cloth_at": ["plan", "number"],
        "number_of": ["plan", "cloth"],
    },
    "told": {"is_known": ["a", "b", "thing"], "told": ["a", "b", "known"], "steps": ["a", "b", "known"]},
    "toldlooks": {
        "shows_told": ["a", "b", "known", "wire", "thing"], "shows_parted": ["a", "b", "known", "wire", "thing"],
    },
    "parted": {"parted": ["a", "b", "known"]},
    "picks": {"is_pick": ["a", "b", "thing"], "picked": ["pick"], "comes": ["pick", "i", "j"]},
    "mills": {"is_mill": ["pick", "thing"], "mill": ["pick"]},
    "orders": {"order": ["pick"], "shows_order": ["pick", "thing"]},
    "pickings": {"count_picks": ["a", "b"], "pick_with": ["a", "b", "one", "other"]},
    "filling": {"ends_at": ["sheet", "pick"], "filled": ["plan", "pick", "ends"]},
    "counting": {
        "count_on": ["plan", "pick", "some"], "cloths_with": ["plan", "some"], "settled": ["plan", "some"],
    },
    "threads": {
        "ways": ["table", "word"], "along": ["plan", "word", "number", "begin", "end"],
        "count_two": ["plan", "one", "letter", "other", "letter_there"], "far_along": ["p", "tables", "word", "times"],
    },
    "turning": {
        "quarter": ["plan"], "quarter_wire": ["a", "b", "wire"], "quarter_sheet": ["sheet"],
        "quarter_pick": ["a", "b", "pick"],
    },
    "flipping": {
        "flip": ["plan"], "flip_wire": ["a", "b", "wire"], "flip_sheet": ["sheet"], "flip_pick": ["a", "b", "pick"],
    },
    "breaks": {"broken": ["plan", "sheet"], "put": ["sheet", "wire", "letter"], "mends": ["plan", "sheet"]},
    "closing": {"is_holed": ["q", "a", "b", "thing"], "closed": ["plan", "holed"]},
    "showing": {
        "show_table": ["table"], "show_plan": ["plan"], "show_sheet": ["sheet"], "show_known": ["known"],
        "show_pick": ["pick"],
    },
    "reading": {
        "read_table": ["q", "text"], "read_plan": ["text"], "read_sheet": ["q", "a", "b", "text"],
        "read_known": ["a", "b", "text"], "read_pick": ["a", "b", "text"],
    },
}

CLASSES = {
    ("house", "House"): {
        "__init__": ["self", "q", "tables"], "grow": ["self", "side", "numbers", "end", "letter"],
        "cut": ["self", "side"], "refill": ["self", "pick", "ends"], "swap": ["self", "i", "j", "number"],
        "turn": ["self"], "flip": ["self"], "plan": ["self"], "cloth": ["self"], "size": ["self"],
        "at": ["self", "wire"], "ends": ["self", "pick"], "back": ["self"], "copied": ["self"],
        "tried": ["self", "look"], "__len__": ["self"], "__eq__": ["self", "other"],
    },
    ("desk", "Desk"): {"__init__": ["self", "text"], "say": ["self", "line"]},
}

PLAN = some_plan(3, 2, 3)
TABLE = some_tables(3)[4]
CLOTH = some_cloth(PLAN)
KNOWN = (("column", 0, 0), ("row", 0, 0), ("row", 2, 1))
PICK = ((0, 2, 1), (3, 1))
SOME = ((("column", 1, 1), 2), (("row", 0, 0), 1))
HOLED = (((0, None, None), (None, 2, None), (1, None, None)), ((None, 1, None, None), (0, None, None, None)))
CALLS = [
    (tables.is_table, {"q": 3, "thing": TABLE}), (tables.quad_by, {"table": TABLE, "leg": 3, "one": 1, "other": 2}),
    (tables.turned, {"table": TABLE}), (tables.flipped, {"table": TABLE}), (tables.through, {"q": 5}),
    (tables.pushed, {"q": 4, "turns": samples.orders(4)}), (tables.lifted, {"q": 4, "turns": samples.orders(4)}),
    (tables.tables_of_two, {}), (plans.is_plan, {"thing": PLAN}), (plans.size, {"plan": PLAN}),
    (plans.table_at, {"plan": PLAN, "i": 1, "j": 2}), (wires.is_wire, {"a": 2, "b": 3, "thing": ("row", 1, 1)}),
    (wires.wires, {"a": 2, "b": 3}), (wires.legs, {"i": 1, "j": 2}),
    (sheets.is_sheet, {"q": 3, "a": 2, "b": 3, "thing": CLOTH}), (sheets.is_cloth, {"plan": PLAN, "thing": CLOTH}),
    (sheets.letter, {"sheet": CLOTH, "wire": ("column", 1, 3)}),
    (weaving.woven, {"plan": PLAN, "corner": 2, "ends": ((0, 1, 2), (2, 0))}), (weaving.count_cloths, {"plan": PLAN}),
    (weaving.cloth_at, {"plan": PLAN, "number": 77}), (weaving.number_of, {"plan": PLAN, "cloth": CLOTH}),
    (told.is_known, {"a": 2, "b": 3, "thing": KNOWN}), (told.told, {"a": 2, "b": 3, "known": KNOWN}),
    (told.steps, {"a": 2, "b": 3, "known": KNOWN}),
    (toldlooks.shows_told, {"a": 2, "b": 3, "known": KNOWN, "wire": ("row", 0, 1), "thing": ((0, 0, 0), (0, 0, 2))}),
    (toldlooks.shows_parted, {
        "a": 2, "b": 3, "known": (), "wire": ("row", 0, 0),
        "thing": (PLAN, weaving.cloth_at(PLAN, 0), weaving.cloth_at(PLAN, 242))}),
    (parted.parted, {"a": 2, "b": 3, "known": KNOWN}), (picks.is_pick, {"a": 2, "b": 3, "thing": PICK}),
    (picks.picked, {"pick": PICK}), (picks.comes, {"pick": PICK, "i": 1, "j": 2}),
    (mills.is_mill, {"pick": MILLED_FORTH, "thing": (0, 1, 0, 1, 1)}), (mills.mill, {"pick": MILLED_FORTH}),
    (orders.order, {"pick": PICK}), (orders.shows_order, {"pick": PICK, "thing": orders.order(PICK)}),
    (pickings.count_picks, {"a": 2, "b": 3}),
    (pickings.pick_with, {"a": 2, "b": 3, "one": ("row", 2, 1), "other": ("column", 1, 3)}),
    (filling.ends_at, {"sheet": CLOTH, "pick": PICK}),
    (filling.filled, {"plan": PLAN, "pick": PICK, "ends": ((2, 0, 1), (0, 2))}),
    (counting.count_on, {"plan": PLAN, "pick": PICK, "some": SOME}),
    (counting.cloths_with, {"plan": PLAN, "some": SOME}), (counting.settled, {"plan": PLAN, "some": SOME}),
    (threads.ways, {"table": TABLE, "word": "column"}),
    (threads.along, {"plan": PLAN, "word": "column", "number": 1, "begin": 0, "end": 3}),
    (threads.count_two, {"plan": PLAN, "one": ("row", 1, 2), "letter": 1, "other": ("row", 1, 0), "letter_there": 2}),
    (threads.far_along, {"p": 10 ** 9, "tables": some_tables(3)[2:5], "word": "row", "times": 10 ** 18}),
    (turning.quarter, {"plan": PLAN}), (turning.quarter_wire, {"a": 2, "b": 3, "wire": ("column", 1, 3)}),
    (turning.quarter_sheet, {"sheet": CLOTH}), (turning.quarter_pick, {"a": 2, "b": 3, "pick": PICK}),
    (flipping.flip, {"plan": PLAN}), (flipping.flip_wire, {"a": 2, "b": 3, "wire": ("row", 2, 0)}),
    (flipping.flip_sheet, {"sheet": CLOTH}), (flipping.flip_pick, {"a": 2, "b": 3, "pick": PICK}),
    (breaks.broken, {"plan": PLAN, "sheet": breaks.put(CLOTH, ("row", 1, 1), 1 - CLOTH[0][1][1] // 2)}),
    (breaks.put, {"sheet": CLOTH, "wire": ("row", 1, 1), "letter": 2}),
    (breaks.mends, {"plan": PLAN, "sheet": breaks.put(CLOTH, ("row", 1, 1), 1 - CLOTH[0][1][1] // 2)}),
    (closing.is_holed, {"q": 3, "a": 2, "b": 3, "thing": HOLED}), (closing.closed, {"plan": PLAN, "holed": HOLED}),
    (showing.show_table, {"table": TABLE}), (showing.show_plan, {"plan": PLAN}), (showing.show_sheet, {"sheet": HOLED}),
    (showing.show_known, {"known": KNOWN}), (showing.show_pick, {"pick": PICK}),
    (reading.read_table, {"q": 3, "text": showing.show_table(TABLE)}),
    (reading.read_plan, {"text": showing.show_plan(PLAN)}),
    (reading.read_sheet, {"q": 3, "a": 2, "b": 3, "text": showing.show_sheet(HOLED)}),
    (reading.read_known, {"a": 2, "b": 3, "text": showing.show_known(KNOWN)}),
    (reading.read_pick, {"a": 2, "b": 3, "text": showing.show_pick(PICK)}),
]
DEEDS = [
    ("grow", {"side": "left", "numbers": (1, 0, 4), "end": 1, "letter": 2}), ("cut", {"side": "low"}),
    ("refill", {"pick": ((0, 1), (0, 0, 0)), "ends": ((2, 1), (0, 1, 2))}), ("swap", {"i": 2, "j": 1, "number": 8}),
    ("turn", {}), ("flip", {}), ("back", {}), ("plan", {}), ("cloth", {}), ("size", {}), ("at", {"wire": ("row", 2, 1)}),
    ("ends", {"pick": ((0, 1, 2), (3, 0))}),
]
LINES = [
    "grow left 1 2 : 1 0 4", "cut low", "fill 0 1 / 0 0 0 : 2 1 / 0 1 2", "swap 2 1 8", "turn", "flip", "back", "plan",
    "cloth", "size", "at row 2 1", "ends 0 1 2 / 3 0",
]


def is_plain(value):
    """Whether it is made of tuples, whole numbers, texts, truths and None alone."""
    if type(value) is tuple:
        return all(is_plain(part) for part in value)
    return type(value) in (int, str, bool) or value is None


class Interface(unittest.TestCase):
    def test_functions_stand_in_their_files_with_their_arguments(self):
        for file, functions in INTERFACE.items():
            module = importlib.import_module("cornertold." + file)
            for name, arguments in functions.items():
                function = getattr(module, name)
                self.assertEqual(function.__module__, module.__name__)
                parameters = inspect.signature(function).parameters.values()
                self.assertEqual([parameter.name for parameter in parameters], arguments)
                for parameter in parameters:
                    self.assertEqual(parameter.kind, inspect.Parameter.POSITIONAL_OR_KEYWORD)

    def test_every_function_is_called_here(self):
        called = {(function.__module__, function.__name__) for function, arguments in CALLS}
        listed = {("cornertold." + file, name) for file, names in INTERFACE.items() for name in names}
        self.assertEqual(called, listed)

    def test_by_places_or_by_names_again_and_again_the_same(self):
        for function, arguments in CALLS:
            before = copy.deepcopy(arguments)
            answer = function(*arguments.values())
            self.assertEqual(function(**dict(reversed(arguments.items()))), answer)
            self.assertEqual(function(*arguments.values()), answer)
            self.assertEqual(arguments, before)
            self.assertTrue(is_plain(answer), function.__name__)

    def test_classes_have_all_their_methods_themselves(self):
        for (file, name), methods in CLASSES.items():
            module = importlib.import_module("cornertold." + file)
            made = getattr(module, name)
            self.assertEqual((made.__module__, made.__bases__), (module.__name__, (object,)))
            for method, arguments in methods.items():
                parameters = inspect.signature(vars(made)[method]).parameters.values()
                self.assertEqual([parameter.name for parameter in parameters], arguments)
                for parameter in parameters:
                    self.assertEqual(parameter.kind, inspect.Parameter.POSITIONAL_OR_KEYWORD)

    def test_deeds_by_places_or_by_names_and_at_a_desk(self):
        one, other = samples.grown_to(PLAN), samples.grown_to(PLAN)
        desk = Desk(text=showing.show_plan(PLAN))
        for (name, arguments), line in zip(DEEDS, LINES):
            before = copy.deepcopy(arguments)
            answer = getattr(one, name)(*arguments.values())
            self.assertEqual(getattr(other, name)(**dict(reversed(arguments.items()))), answer)
            self.assertEqual(arguments, before)
            self.assertTrue(is_plain(answer), name)
            self.assertIs(type(desk.say(line=line)), str)
            self.assertEqual(one, other)
        self.assertIs(type(one.copied()), House)
        self.assertIs(type(len(one)), int)
        self.assertIs(type(one == other), bool)

    def test_what_is_asked_changes_nothing(self):
        house = samples.grown_to(PLAN)
        for name, arguments in DEEDS:
            if name in ("plan", "cloth", "size"):
                before = (house.plan(), house.cloth(), len(house))
                self.assertEqual(getattr(house, name)(), getattr(house, name)())
                self.assertEqual((house.plan(), house.cloth(), len(house)), before)

    def test_questions_are_answered_with_truths(self):
        for function, arguments in CALLS:
            if function.__name__.startswith(("is_", "shows_")):
                self.assertIs(function(**arguments), True)
                for thing in ((), None, [], nested(tuple), 0, ""):
                    self.assertIsInstance(function(**{**arguments, "thing": thing}), bool)

    def test_lists_handed_in_as_anything_stay_as_they_were(self):
        for function, arguments in CALLS:
            if function.__name__.startswith(("is_", "shows_")):
                listed = [list(part) if isinstance(part, tuple) else part for part in arguments.get("thing")]
                before = copy.deepcopy(listed)
                self.assertIs(function(**{**arguments, "thing": listed}), False)
                self.assertIs(function(**{**arguments, "thing": tuple(listed)}), before == list(arguments["thing"]))
                self.assertEqual(listed, before)


if __name__ == "__main__":
    unittest.main()
