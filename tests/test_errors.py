"""The error classes (point 3 and the interface)."""

import copy
import inspect
import unittest

from halfpicked import errors
from tests.support import odd_values

FIELDS = {
    "BadPlaces": "index", "BadTie": "index", "BadPrice": "place", "NoName": "name", "NoPlace": "place",
    "PlaceThere": "place", "NoTie": "pair", "TieThere": "pair", "SamePlace": "place", "CommonPlace": "place",
    "EmptyWeb": None, "BadList": None, "TooMany": "limit", "NoAnswer": None, "NotBest": None,
    "BadValue": "value", "BadKept": None, "NoCover": None, "BadNames": "index", "BadRow": "index",
    "BadCost": "name", "NoReading": None, "NoHalf": None, "NoTruth": None, "BadLiteral": None,
    "BadNumber": None, "BadDeed": "index", "NoUndo": None, "NoText": "line",
}


class ErrorClasses(unittest.TestCase):

    def test_the_classes_are_just_these(self):
        found = [name for name, value in vars(errors).items() if inspect.isclass(value)]
        self.assertEqual(sorted(found), sorted([*FIELDS, "HalfError"]))

    def test_all_are_direct_children_of_the_base(self):
        self.assertEqual(errors.HalfError.__bases__, (ValueError,))
        for name in FIELDS:
            cls = getattr(errors, name)
            self.assertEqual(cls.__bases__, (errors.HalfError,), name)
            self.assertEqual(cls.__subclasses__(), [], name)
            self.assertEqual(cls.__module__, "halfpicked.errors")

    def test_fields_hold_the_very_value(self):
        for name, field in FIELDS.items():
            cls = getattr(errors, name)
            if field is None:
                self.assertEqual(vars(cls()), {}, name)
                continue
            for value in odd_values():
                self.assertIs(getattr(cls(value), field), value)
                self.assertEqual(list(vars(cls(**{field: value}))), [field], name)

    def test_one_argument_for_each_field(self):
        for name, field in FIELDS.items():
            if field is not None:
                cls = getattr(errors, name)
                self.assertRaises(TypeError, cls)
                self.assertRaises(TypeError, cls, 1, 2)

    def test_errors_can_be_shown_and_copied(self):
        for name, field in FIELDS.items():
            cls = getattr(errors, name)
            error = cls() if field is None else cls(10 ** 5000)
            self.assertIsInstance(str(error) + repr(error), str)
            self.assertEqual(vars(copy.copy(error)), vars(error))


if __name__ == "__main__":
    unittest.main()
