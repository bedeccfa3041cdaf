"""[A3] and the interface: bounds and errors."""

import unittest

from guardbooks import bounds, errors
from tests.support import ODD_VALUES

BOUNDS = {
    "MAX_CELLS": 40, "MAX_FIELDS": 3, "MAX_HANDS": 4, "MAX_ROOMS": 4, "MAX_DEEDS": 400,
    "MAX_PROGRAM": 6, "MAX_WOVEN": 3000, "MAX_EDITS": 200, "MAX_PRICE": 10 ** 6}

# The name of the only argument of each error, None if it takes none.
ERRORS = {
    "Unfit": None, "BadHeap": "error", "BadStanding": "error", "BadBook": "error", "BadText": "place",
    "BadLog": "place", "Refused": "deed", "Lost": "cells", "TooMany": "limit", "TooManyEdits": None,
    "NothingToUndo": None}


class BoundsTest(unittest.TestCase):

    def test_all_nine_and_no_more(self):
        there = {name: value for name, value in vars(bounds).items() if not name.startswith("_")}
        self.assertEqual(there, BOUNDS)

    def test_all_are_integers(self):
        for name in BOUNDS:
            self.assertIs(type(getattr(bounds, name)), int, name)


class ErrorsTest(unittest.TestCase):

    def test_all_are_directly_under_guard_error(self):
        self.assertEqual(errors.GuardError.__bases__, (ValueError,))
        for name in ERRORS:
            self.assertEqual(getattr(errors, name).__bases__, (errors.GuardError,), name)

    def test_all_eleven_and_no_more(self):
        there = [name for name in vars(errors) if not name.startswith("_")]
        self.assertEqual(sorted(there), sorted(["GuardError", *ERRORS]))

    def test_all_are_defined_there(self):
        for name in ["GuardError", *ERRORS]:
            self.assertEqual(getattr(errors, name).__module__, "guardbooks.errors")
            self.assertEqual(getattr(errors, name).__name__, name)

    def test_keep_what_was_passed_by_place_and_by_name(self):
        for name, field in ERRORS.items():
            if field is None:
                continue
            made = getattr(errors, name)
            for value in ODD_VALUES:
                self.assertIs(getattr(made(value), field), value)
                self.assertIs(getattr(made(**{field: value}), field), value)
                self.assertEqual(list(vars(made(value))), [field])

    def test_take_just_these_arguments(self):
        for name, field in ERRORS.items():
            made = getattr(errors, name)
            if field is None:
                self.assertEqual(vars(made()), {})
            else:
                for wrong in ((), (1, 2)):
                    self.assertRaises(TypeError, made, *wrong)
                self.assertRaises(TypeError, made, other=1)

    def test_are_caught_as_guard_error_and_value_error(self):
        for name, field in ERRORS.items():
            for caught in (errors.GuardError, ValueError, getattr(errors, name)):
                with self.assertRaises(caught):
                    raise getattr(errors, name)(*([] if field is None else [(1,)]))

    def test_none_is_caught_as_another_one(self):
        for name in ERRORS:
            for other in ERRORS:
                self.assertEqual(issubclass(getattr(errors, name), getattr(errors, other)), name == other)

    def test_two_of_one_class_are_apart(self):
        one, two = errors.BadText(0), errors.BadText(1)
        self.assertEqual((one.place, two.place), (0, 1))


if __name__ == "__main__":
    unittest.main()
