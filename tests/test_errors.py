"""The classes of errors."""

import unittest

from surefinds import errors
from tests.support import ODD_VALUES

WITH_GIVEN = ("InvalidCount", "InvalidFrame", "InvalidSet", "InvalidNumber", "InvalidDegree", "InvalidFraction",
              "TooMany")
WITH_INDEX = ("InvalidCorners", "InvalidBook", "InvalidBars", "InvalidNumbers", "InvalidWorths", "InvalidTies",
              "InvalidWeights", "InvalidLimits", "InvalidWeb")
VALUES = ODD_VALUES + (0, 7, (1, 2), ((1, 2), None), [[1], (2,)], 10 ** 399)


class Errors(unittest.TestCase):

    def test_the_base_stands_under_value_error_alone(self):
        self.assertEqual(errors.FindError.__bases__, (ValueError,))
        self.assertIsInstance(errors.FindError(), ValueError)
        self.assertEqual(vars(errors.FindError()), {})

    def test_all_others_stand_under_the_base_alone(self):
        for name in WITH_GIVEN + WITH_INDEX:
            self.assertEqual(getattr(errors, name).__bases__, (errors.FindError,), name)

    def test_there_are_no_others(self):
        found = {name for name, value in vars(errors).items() if isinstance(value, type)}
        self.assertEqual(found, set(WITH_GIVEN + WITH_INDEX + ("FindError",)))

    def test_each_is_defined_here(self):
        for name in WITH_GIVEN + WITH_INDEX + ("FindError",):
            self.assertEqual(getattr(errors, name).__module__, "surefinds.errors")

    def test_given_is_kept_whatever_it_is(self):
        for name in WITH_GIVEN:
            made = getattr(errors, name)
            for value in VALUES:
                self.assertIs(made(value).given, value)
                self.assertIs(made(given=value).given, value)
                self.assertEqual(list(vars(made(value))), ["given"])

    def test_index_is_kept_whatever_it_is(self):
        for name in WITH_INDEX:
            made = getattr(errors, name)
            for value in VALUES:
                self.assertIs(made(value).index, value)
                self.assertIs(made(index=value).index, value)
                self.assertEqual(list(vars(made(value))), ["index"])

    def test_each_is_made_with_just_its_attribute(self):
        for name in WITH_GIVEN + WITH_INDEX:
            made = getattr(errors, name)
            self.assertRaises(TypeError, made)
            self.assertRaises(TypeError, made, 1, 2)
            self.assertRaises(TypeError, made, other=1)

    def test_each_can_be_raised_and_told(self):
        for name in WITH_GIVEN + WITH_INDEX:
            made = getattr(errors, name)
            with self.assertRaises(errors.FindError) as caught:
                raise made(10 ** 399)
            self.assertIs(type(caught.exception), made)
            self.assertTrue(str(caught.exception))
