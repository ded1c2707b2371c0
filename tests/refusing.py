"""A case that can tell whether a call is refused with one error and no other."""

import unittest


class RefusingCase(unittest.TestCase):
    def assert_refused(self, error, asked, *handed):
        try:
            asked(*handed)
        except Exception as raised:
            # Its words aren't shown on a failure: what was handed in may be nothing that can be shown.
            self.assertIs(type(raised), error, asked.__name__)
        else:
            self.fail(f"{asked.__name__} didn't refuse")

    def assert_each_refused(self, error, asked, handed):
        for number, arguments in enumerate(handed):
            with self.subTest(asked=asked.__name__, number=number):
                self.assert_refused(error, asked, *arguments)
