"""Promise 6: stretches in texts."""

import itertools
import re
import unittest

from windowrows.errors import BadText, TurnedStretch
from windowrows.stretches import Stretch, read_stretch

NUMBER = "(?:0|-?[1-9][0-9]{0,12})"
FORM = re.compile(f"({NUMBER})?[.][.]({NUMBER})?")


def outcome(text):
    """Return what reading the text gives, as a tuple."""
    try:
        stretch = read_stretch(text)
    except BadText as error:
        cause = error.__cause__
        if cause is None:
            return ("bad", error.place)
        return ("turned", error.place, cause.low, cause.high)
    return ("read", stretch.low, stretch.high)


def expected(text):
    """Return the same by looking at all beginnings of the text."""
    longest = None
    for end in range(len(text) + 1):
        found = FORM.fullmatch(text[:end])
        if found:
            longest = found
    if longest is None:
        return ("bad", 0)
    if longest.end() < len(text):
        return ("bad", longest.end())
    low, high = [None if word is None else int(word) for word in longest.groups()]
    if low is not None and high is not None and low > high:
        return ("turned", 0, low, high)
    return ("read", low, high)


class ReadTexts(unittest.TestCase):
    def check(self, text, low, high):
        stretch = read_stretch(text)
        self.assertIsInstance(stretch, Stretch)
        self.assertEqual((stretch.low, stretch.high), (low, high))

    def test_both_ends(self):
        self.check("1..2", 1, 2)
        self.check("-2..0", -2, 0)
        self.check("0..0", 0, 0)
        self.check("-10..-9", -10, -9)
        self.check("7..7", 7, 7)

    def test_one_end(self):
        self.check("3..", 3, None)
        self.check("-3..", -3, None)
        self.check("0..", 0, None)
        self.check("..5", None, 5)
        self.check("..-5", None, -5)
        self.check("..0", None, 0)

    def test_no_end(self):
        self.check("..", None, None)

    def test_thirteen_digits(self):
        self.check("-9999999999999..9999999999999", -9999999999999, 9999999999999)
        self.check("1000000000000..", 1000000000000, None)
        self.check("..1000000000000", None, 1000000000000)

    def test_written_stretches_are_read(self):
        ends = [None, -9999999999999, -12, -1, 0, 1, 10, 9999999999999]
        for low, high in itertools.product(ends, ends):
            if low is None or high is None or low <= high:
                stretch = Stretch(low, high)
                self.assertEqual(read_stretch(str(stretch)), stretch)


class BadTexts(unittest.TestCase):
    def check(self, text, place):
        with self.assertRaises(BadText) as caught:
            read_stretch(text)
        self.assertEqual(caught.exception.place, place)
        self.assertIsNone(caught.exception.__cause__)

    def test_examples_of_the_document(self):
        self.check("1..2 ", 4)
        self.check("1..02", 4)

    def test_no_stretch_at_the_beginning(self):
        for text in ["", ".", "1", "1.", "-", "-1", "-..", "-.", "a", "1-..", "1 ..", "--1..2", "+1..2", " "]:
            self.check(text, 0)

    def test_fourteen_digits(self):
        self.check("10000000000000..", 0)
        self.check("-10000000000000..1", 0)
        self.check("..10000000000000", 15)
        self.check("..-10000000000000", 16)
        self.check("1..10000000000000", 16)

    def test_leading_zeros(self):
        self.check("00..", 0)
        self.check("01..2", 0)
        self.check("-01..2", 0)
        self.check("..00", 3)
        self.check("..01", 3)
        self.check("..-01", 2)
        self.check("0000000000000001..", 0)

    def test_negative_zero(self):
        self.check("-0..", 0)
        self.check("-0..5", 0)
        self.check("..-0", 2)
        self.check("1..-0", 3)
        self.check("-5..-0", 4)

    def test_characters_before(self):
        self.check(" 1..2", 0)
        self.check("x1..2", 0)
        self.check("rows 1..2", 0)

    def test_characters_behind(self):
        self.check(".. ", 2)
        self.check("...", 2)
        self.check("....", 2)
        self.check("1..2..3", 4)
        self.check("1..2x", 4)
        self.check("1..-", 3)
        self.check("1.. 2", 3)
        self.check("1..--2", 3)
        self.check("..5-", 3)
        self.check("1..+2", 3)

    def test_characters_behind_come_before_turned_ends(self):
        self.check("3..1 ", 4)
        self.check("3..1..", 4)

    def test_other_digits_are_no_digits(self):
        self.check("\u0661..2", 0)
        self.check("..\u00b2", 2)


class TurnedTexts(unittest.TestCase):
    def test_cause(self):
        for text, low, high in [("1..0", 1, 0), ("0..-1", 0, -1), ("-1..-2", -1, -2),
                                ("9999999999999..-9999999999999", 9999999999999, -9999999999999)]:
            with self.assertRaises(BadText) as caught:
                read_stretch(text)
            self.assertEqual(caught.exception.place, 0)
            cause = caught.exception.__cause__
            self.assertIsInstance(cause, TurnedStretch)
            self.assertEqual((cause.low, cause.high), (low, high))


class AllShortTexts(unittest.TestCase):
    def test_against_the_form(self):
        for length in range(7):
            for letters in itertools.product("01-. ", repeat=length):
                text = "".join(letters)
                self.assertEqual(outcome(text), expected(text), text)

    def test_against_the_form_with_many_digits(self):
        for low_digits, high_digits in itertools.product([0, 1, 12, 13, 14, 26, 27], repeat=2):
            for low_sign, high_sign, tail in itertools.product(["", "-"], ["", "-"], ["", ".", "0"]):
                text = low_sign + "4" * low_digits + ".." + high_sign + "5" * high_digits + tail
                self.assertEqual(outcome(text), expected(text), text)

    def test_repeated_calls(self):
        for text in ["1..2", "..", "1..0", "1..02", "x"]:
            self.assertEqual(outcome(text), outcome(text))


if __name__ == "__main__":
    unittest.main()
