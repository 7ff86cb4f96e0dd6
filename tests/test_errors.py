"""[0.5]: every error of the document, directly under WallError, with its attributes."""

import inspect
import unittest

from jointsapart import errors

ATTRIBUTES = {
    "BadRatio": ("what",), "BadStock": ("what",), "BadSize": (), "BadCourse": ("index", "what"),
    "BadJoints": (), "BadLength": (), "NoCourse": ("number",), "UnlikeLengths": (),
    "BadText": ("number", "what"), "BadWall": ("index", "what"), "NotRight": (),
    "CannotPile": ("what",), "NoCourses": (), "NoNumber": ("number",), "TooLong": ("most",),
    "BadRound": ("index", "what"), "BadHeight": (), "BadOrder": (), "BadMost": (),
    "Wide": ("most",), "BadCalendar": ("what",), "BadTariff": ("index",), "BadEnd": ("what",),
    "BadCut": ("index", "what"), "UnlikeEnds": (), "BadClock": ("what",),
    "BadPattern": ("index",), "BadCounts": ("what",), "BadShare": ("share",),
    "BadBrickRatio": ("ratio",), "NotTwo": (), "BadStretch": ("what",), "NoEnd": (),
    "BadDrift": ("what",), "BadBreadth": (), "BadCorners": (), "BadFace": ("what",),
    "BadWell": ("what",), "UnlikeGirths": (), "BadPrices": ("what",), "TooShort": (),
    "BadCrack": ("index",), "BadCrackCalendar": ("what",), "BadLoads": ("index", "what"),
    "BadWeight": (), "BadPressure": (), "BadTotal": (), "BadFeet": ("index",),
    "BadBrick": ("brick",), "BadBundle": ("index",), "TooManyBricks": ("most",),
    "BadRuin": ("index", "what"), "BadSign": (), "NoFilling": (), "ManySeen": (),
    "BadChange": ("index", "what"), "BadWish": ("index", "what"), "NoChange": ("number",),
}


class Errors(unittest.TestCase):
    def test_all_are_there_and_no_others(self):
        found = [name for name, thing in vars(errors).items() if inspect.isclass(thing)]
        self.assertEqual(sorted(found), sorted([*ATTRIBUTES, "WallError"]))
        self.assertEqual(len(ATTRIBUTES), 58)

    def test_wall_error_stands_directly_under_value_error(self):
        self.assertEqual(errors.WallError.__bases__, (ValueError,))

    def test_each_stands_directly_under_wall_error(self):
        for name in ATTRIBUTES:
            with self.subTest(name):
                self.assertEqual(getattr(errors, name).__bases__, (errors.WallError,))

    def test_attributes_in_order(self):
        for name, attributes in ATTRIBUTES.items():
            with self.subTest(name):
                told = [object() for _ in attributes]
                error = getattr(errors, name)(*told)
                self.assertEqual(list(vars(error)), list(attributes))
                for attribute, thing in zip(attributes, told):
                    self.assertIs(getattr(error, attribute), thing)

    def test_attributes_by_name(self):
        for name, attributes in ATTRIBUTES.items():
            with self.subTest(name):
                told = {attribute: object() for attribute in attributes}
                self.assertEqual(vars(getattr(errors, name)(**told)), told)

    def test_each_can_be_raised_and_caught(self):
        for name, attributes in ATTRIBUTES.items():
            with self.subTest(name), self.assertRaises(errors.WallError):
                raise getattr(errors, name)(*attributes)
