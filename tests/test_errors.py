import unittest

from cornertold import errors
from tests.samples import ODD_THINGS

WITH_A_VALUE = {
    "NoNumber": "number", "TooMany": "many", "Milled": "mill", "NoLetters": "q", "NoTables": "tables",
    "NoSide": "side", "NoNumbers": "numbers", "NoEnd": "end", "NoLetter": "letter", "NoPick": "pick",
    "NoEnds": "letters", "NoCrossing": "crossing", "NoWire": "wire", "NoText": "row", "NoLine": "line",
}
WITH_A_TEXT = ("OneThread", "Full", "Bare", "NoBack")


class Refusals(unittest.TestCase):
    def test_there_are_nineteen_straight_under_cloth_error(self):
        names = [*WITH_A_VALUE, *WITH_A_TEXT]
        self.assertEqual(len(names), 19)
        for name in names:
            self.assertEqual(getattr(errors, name).__bases__, (errors.ClothError,), name)
        self.assertEqual(errors.ClothError.__bases__, (ValueError,))

    def test_each_is_defined_in_errors(self):
        for name in ["ClothError", *WITH_A_VALUE, *WITH_A_TEXT]:
            self.assertEqual(getattr(errors, name).__module__, "cornertold.errors", name)

    def test_values_are_kept_just_as_they_were(self):
        for name, attribute in WITH_A_VALUE.items():
            refusal = getattr(errors, name)
            for thing in ODD_THINGS:
                self.assertIs(getattr(refusal(thing), attribute), thing, name)
                self.assertIs(getattr(refusal(**{attribute: thing}), attribute), thing, name)

    def test_values_are_wanted(self):
        for name in WITH_A_VALUE:
            with self.assertRaises(TypeError):
                getattr(errors, name)()

    def test_texts_are_told_by_str(self):
        for name in WITH_A_TEXT:
            self.assertEqual(str(getattr(errors, name)("why it is so")), "why it is so", name)

    def test_they_are_caught_by_all_names_above(self):
        for name in [*WITH_A_VALUE, *WITH_A_TEXT]:
            for above in (getattr(errors, name), errors.ClothError, ValueError):
                with self.assertRaises(above):
                    raise getattr(errors, name)("x")


if __name__ == "__main__":
    unittest.main()
