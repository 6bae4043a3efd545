"""Point 1 and 10: the errors, what they are beneath, and their attributes."""

import unittest

from anymarks import errors
from tests.helpers import Touchy

ATTRIBUTES = {
    "BadWeb": ("value",), "BadSaying": ("path",), "BadMarking": ("value",), "BadWorld": ("value",),
    "BadWay": ("value",), "BadLetter": ("value",), "BadFact": ("path",), "BadForm": ("place",),
    "NoShape": ("value", "letters"), "NoForward": ("place",), "BadLot": ("place",),
    "Stuck": ("letter",), "BadPaper": ("place",), "BadParameter": ("value",), "NoRow": (),
    "TooGreat": ("most",),
}


class TestErrors(unittest.TestCase):
    def test_beneath(self):
        self.assertEqual(errors.MarkError.__bases__, (ValueError,))
        for name in ATTRIBUTES:
            with self.subTest(name):
                self.assertEqual(getattr(errors, name).__bases__, (errors.MarkError,))

    def test_all_are_listed(self):
        found = {name for name, value in vars(errors).items() if isinstance(value, type)}
        self.assertEqual(found, {"MarkError", *ATTRIBUTES})

    def test_attributes_by_position_and_by_name(self):
        for name, attributes in ATTRIBUTES.items():
            with self.subTest(name):
                values = [Touchy() for _ in attributes]
                by_name = dict(zip(attributes, values))
                for error in (getattr(errors, name)(*values), getattr(errors, name)(**by_name)):
                    self.assertEqual(list(vars(error)), list(attributes))
                    for attribute, value in by_name.items():
                        self.assertIs(getattr(error, attribute), value)

    def test_each_asks_for_its_arguments(self):
        for name, attributes in ATTRIBUTES.items():
            for many in {0, 1, 2, 3} - {len(attributes)}:
                with self.subTest(name, many=many), self.assertRaises(TypeError):
                    getattr(errors, name)(*range(many))

    def test_shown_without_the_value(self):
        for name, attributes in ATTRIBUTES.items():
            for value in (Touchy(), 10 ** 5000):
                with self.subTest(name):
                    error = getattr(errors, name)(*[value for _ in attributes])
                    self.assertTrue(str(error))
                    self.assertTrue(repr(error))

    def test_raised_and_caught(self):
        for name, attributes in ATTRIBUTES.items():
            for caught in (getattr(errors, name), errors.MarkError, ValueError):
                with self.subTest(name), self.assertRaises(caught):
                    raise getattr(errors, name)(*attributes)


if __name__ == "__main__":
    unittest.main()
