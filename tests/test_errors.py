"""Point 2 and the interface of errors: base classes, attributes and codes."""

import inspect
import unittest

from pileports import errors

PILE_ERRORS = {
    "BadPlace": "place", "BadMove": "at", "BadText": "at", "TooLong": "limit", "BadForm": None,
    "TooWide": "limit", "BadSize": "size", "TooGreat": "limit", "TooSmall": "limit", "NoPlace": "place",
    "BadRounds": "rounds", "NoShift": None, "Shifted": None, "BadRemainder": "at", "BadName": "name",
    "Taken": "name", "Full": "limit", "InUse": "number", "BadCapacity": "value", "BadDeed": "at",
    "BadPage": "row",
}
MISSING = {"NoWord": "name", "NoPile": "name", "NoMark": "name", "NoWatch": "number", "NothingLeft": None}


def made(name, attribute, value):
    """An error of the class with this name."""
    error_class = getattr(errors, name)
    return error_class() if attribute is None else error_class(value)


class ErrorsTest(unittest.TestCase):
    def test_no_other_classes(self):
        names = {name for name, value in vars(errors).items() if inspect.isclass(value)}
        self.assertEqual(names, {"PileError", "Missing", *PILE_ERRORS, *MISSING})

    def test_bases(self):
        self.assertEqual(errors.PileError.__bases__, (ValueError,))
        self.assertEqual(errors.Missing.__bases__, (LookupError,))
        for name in PILE_ERRORS:
            self.assertEqual(getattr(errors, name).__bases__, (errors.PileError,), name)
        for name in MISSING:
            self.assertEqual(getattr(errors, name).__bases__, (errors.Missing,), name)

    def test_codes(self):
        for name, attribute in {**PILE_ERRORS, **MISSING}.items():
            self.assertEqual(made(name, attribute, 3).code, name)
        self.assertEqual(errors.PileError().code, "PileError")
        self.assertEqual(errors.Missing().code, "Missing")

    def test_attributes(self):
        for name, attribute in {**PILE_ERRORS, **MISSING}.items():
            for value in (0, -1, 10 ** 400, "ace", "", ("top", 3)):
                expected = {"code": name}
                if attribute is not None:
                    expected[attribute] = value
                self.assertEqual(vars(made(name, attribute, value)), expected)

    def test_each_can_be_raised_and_caught_by_its_base(self):
        for name, attribute in PILE_ERRORS.items():
            with self.assertRaises(errors.PileError):
                raise made(name, attribute, 1)
        for name, attribute in MISSING.items():
            with self.assertRaises(errors.Missing):
                raise made(name, attribute, 1)


if __name__ == "__main__":
    unittest.main()
