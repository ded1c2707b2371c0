"""Texts: promise [13]."""

import itertools
import unittest

from placechange.errors import BadDance, BadText
from placechange.texts import read, written
from tests.refusing import RefusingCase
from tests.samples import all_dances, no_counts, no_texts, some_dances


class Written(unittest.TestCase):
    def test_told_cases(self):
        for dancers, dance, text in (
            (1, [], ""), (7, [], ""), (2, [0], "0"), (2, [0, 0], "0 0"), (4, [0, 2, 1], "0 2 1"), (7, [5, 0], "5 0"),
        ):
            self.assertEqual(written(dancers, dance), text)
            self.assertIs(type(written(dancers, dance)), str)

    def test_thirty_steps(self):
        self.assertEqual(written(2, [0] * 30), "0" + " 0" * 29)
        self.assertEqual(written(7, [0, 1, 2, 3, 4, 5] * 5), "0 1 2 3 4 5 " * 4 + "0 1 2 3 4 5")


class Read(RefusingCase):
    def assert_bad_texts(self, dancers, texts):
        self.assert_each_refused(BadText, read, [(dancers, text) for text in texts])

    def test_told_cases(self):
        for dancers, text, dance in (
            (1, "", []), (7, "", []), (2, "0", [0]), (2, "0 0", [0, 0]), (4, "0 2 1", [0, 2, 1]), (7, "5 0", [5, 0]),
        ):
            told = read(dancers, text)
            self.assertIs(type(told), list)
            self.assertEqual(told, dance)
            self.assertEqual([type(step) for step in told], [int] * len(dance))

    def test_what_is_written_is_read(self):
        for dancers, longest in ((1, 0), (2, 5), (3, 5), (4, 4), (5, 4), (7, 3)):
            for dance in all_dances(dancers, longest):
                self.assertEqual(read(dancers, written(dancers, dance)), dance)
        for dancers in range(2, 8):
            for length in (29, 30):
                for dance in some_dances(dancers, 20, length, dancers):
                    self.assertEqual(read(dancers, written(dancers, dance)), dance)

    def test_nothing_else_is_read(self):
        signs = "0123 \t\n-+.,_"
        for dancers in (1, 2, 3, 4):
            texts = {written(dancers, dance): dance for dance in all_dances(dancers, 2)}
            for length in range(5):
                for chosen in itertools.product(signs[:8] if length == 4 else signs, repeat=length):
                    text = "".join(chosen)
                    if text in texts:
                        self.assertEqual(read(dancers, text), texts[text])
                    else:
                        self.assert_refused(BadText, read, dancers, text)

    def test_every_sign_by_itself(self):
        for sign in ["\t", "\n"] + [chr(number) for number in range(32, 127)]:
            if sign in "012345":
                self.assertEqual(read(7, sign), [int(sign)])
            else:
                self.assert_refused(BadText, read, 7, sign)
            self.assert_refused(BadText, read, 7, "0" + sign)
            self.assert_refused(BadText, read, 7, sign + "0")

    def test_blanks(self):
        self.assert_bad_texts(4, [" ", "  ", " 0", "0 ", "0  1", " 0 1", "0 1 ", "0 1  2", "   0", "0   ", " " * 100])

    def test_tabs_and_line_feeds(self):
        self.assert_bad_texts(4, ["\t", "\n", "0\t1", "0\n1", "0\n", "\n0", "\t0", "0\t", "0 \n1", "0 1\n", "0\r\n"])

    def test_signs_and_noughts_ahead_of_a_number(self):
        self.assert_bad_texts(4, ["+0", "-0", "+1", "-1", "00", "01", "0 01", "000", "0 +1", "- 1", "1-", "1_", "1_0"])

    def test_what_is_no_number(self):
        self.assert_bad_texts(4, ["a", "0a", "0,1", "[0]", "[]", "0.0", "0x0", "1e0", "None", "True", "''", "0;1", "~"])
        # Other writings of digits, and other blanks, that Python takes for such.
        self.assert_bad_texts(4, ["\u0661", "\uff11", "\u00b2", "0\u00a01", "\u2003", "0\x0b1", "0\x1f1", "\ud800"])

    def test_steps_that_so_many_have_not(self):
        for dancers in range(1, 8):
            for step in list(range(dancers - 1, 13)) + [100, 10 ** 20]:
                self.assert_refused(BadText, read, dancers, str(step))
                self.assert_refused(BadText, read, dancers, f"0 {step}")
            for step in range(dancers - 1):
                self.assertEqual(read(dancers, str(step)), [step])

    def test_thirty_steps_at_the_most(self):
        for dancers in range(2, 8):
            step = dancers - 2
            self.assertEqual(read(dancers, " ".join([str(step)] * 30)), [step] * 30)
            for many in (31, 32, 100, 10000):
                self.assert_refused(BadText, read, dancers, " ".join([str(step)] * many))

    def test_numbers_far_too_long(self):
        # Python itself doesn't read numbers of so many digits.
        self.assert_bad_texts(4, ["0" * 5000, "1" * 5000, "0 " + "0" * 5000, "-" + "9" * 5000, "0" * 4999 + "1"])

    def test_what_is_no_text(self):
        for dancers in (1, 2, 4, 7):
            self.assert_bad_texts(dancers, no_texts())

    def test_bad_dance_goes_first(self):
        for value in no_counts():
            for text in ("", "0", " ", "0" * 5000, None, 0, [], [0]):
                self.assert_refused(BadDance, read, value, text)
