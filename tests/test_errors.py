"""The errors of the interface."""

import unittest

from placechange import errors
from placechange.errors import BadDance, BadMove, BadOrder, BadText, DanceError, Unlike


class ErrorClasses(unittest.TestCase):
    def test_dance_error_stands_straight_under_value_error(self):
        self.assertEqual(DanceError.__bases__, (ValueError,))

    def test_the_others_stand_straight_under_dance_error(self):
        for error in (BadOrder, BadDance, BadMove, Unlike, BadText):
            with self.subTest(error=error.__name__):
                self.assertEqual(error.__bases__, (DanceError,))

    def test_each_bears_its_own_name(self):
        for name in ("DanceError", "BadOrder", "BadDance", "BadMove", "Unlike", "BadText"):
            self.assertEqual(getattr(errors, name).__name__, name)
