"""Promise 5, and promise 2 for stretches."""

import unittest

from windowrows.errors import TurnedStretch
from windowrows.offsets import Offset
from windowrows.stretches import Stretch

# All members of open stretches with ends from -3 to 3 show within -6 to 6.
SEEN = range(-6, 7)


def small_stretches():
    ends = [None, *range(-3, 4)]
    return [
        Stretch(low, high) for low in ends for high in ends
        if low is None or high is None or low <= high
    ]


def members(stretch):
    return {
        number for number in SEEN
        if (stretch.low is None or stretch.low <= number)
        and (stretch.high is None or number <= stretch.high)
    }


def ends(stretch):
    return (stretch.low, stretch.high)


class Making(unittest.TestCase):
    def test_ends(self):
        for low, high in [(-2, 0), (3, 3), (0, 0), (None, 5), (3, None), (None, None), (-10 ** 9, 10 ** 9)]:
            self.assertEqual(ends(Stretch(low, high)), (low, high))

    def test_ends_by_name(self):
        self.assertEqual(ends(Stretch(low=1, high=2)), (1, 2))
        self.assertEqual(ends(Stretch(high=2, low=1)), (1, 2))
        self.assertEqual(ends(Stretch(1, high=None)), (1, None))

    def test_turned_ends(self):
        for low, high in [(1, 0), (0, -1), (-1, -2), (5, -5), (10 ** 20, 3)]:
            with self.assertRaises(TurnedStretch) as caught:
                Stretch(low, high)
            self.assertEqual((caught.exception.low, caught.exception.high), (low, high))

    def test_turned_ends_by_name(self):
        with self.assertRaises(TurnedStretch) as caught:
            Stretch(high=1, low=2)
        self.assertEqual((caught.exception.low, caught.exception.high), (2, 1))


class Membership(unittest.TestCase):
    def test_at_the_ends_and_beside_them(self):
        stretch = Stretch(-2, 3)
        for number, inside in [(-3, False), (-2, True), (-1, True), (0, True), (2, True), (3, True), (4, False)]:
            self.assertIs(number in stretch, inside)

    def test_one_member(self):
        for number, inside in [(-1, False), (0, True), (1, False)]:
            self.assertIs(number in Stretch(0, 0), inside)

    def test_open_ends(self):
        for number, below, above in [(-10 ** 15, True, False), (4, True, False), (5, True, True),
                                     (6, False, True), (10 ** 15, False, True)]:
            self.assertIs(number in Stretch(None, 5), below)
            self.assertIs(number in Stretch(5, None), above)
            self.assertIs(number in Stretch(None, None), True)

    def test_zero_is_an_end_like_others(self):
        self.assertNotIn(1, Stretch(None, 0))
        self.assertNotIn(-1, Stretch(0, None))


class Meeting(unittest.TestCase):
    def check(self, first, second, low, high):
        for one, two in [(first, second), (second, first)]:
            met = one.meet(two)
            self.assertIsInstance(met, Stretch)
            self.assertEqual(ends(met), (low, high))

    def test_apart(self):
        for first, second in [(Stretch(1, 2), Stretch(4, 5)), (Stretch(1, 2), Stretch(3, 5)),
                              (Stretch(None, 2), Stretch(3, None)), (Stretch(None, -1), Stretch(0, 0))]:
            self.assertIsNone(first.meet(second))
            self.assertIsNone(second.meet(first))

    def test_touching_in_one_member(self):
        self.check(Stretch(1, 3), Stretch(3, 5), 3, 3)
        self.check(Stretch(None, 0), Stretch(0, None), 0, 0)

    def test_overlapping(self):
        self.check(Stretch(1, 4), Stretch(3, 6), 3, 4)
        self.check(Stretch(1, 6), Stretch(3, 4), 3, 4)
        self.check(Stretch(1, 4), Stretch(1, 4), 1, 4)

    def test_open_ends(self):
        self.check(Stretch(None, 4), Stretch(None, 2), None, 2)
        self.check(Stretch(4, None), Stretch(2, None), 4, None)
        self.check(Stretch(None, 4), Stretch(2, None), 2, 4)
        self.check(Stretch(None, None), Stretch(0, 3), 0, 3)
        self.check(Stretch(None, None), Stretch(None, None), None, None)

    def test_all_small_stretches(self):
        for first in small_stretches():
            for second in small_stretches():
                common = members(first) & members(second)
                met = first.meet(second)
                if common:
                    self.assertEqual(members(met), common)
                else:
                    self.assertIsNone(met)


class Within(unittest.TestCase):
    def test_closed(self):
        self.assertIs(Stretch(1, 3).within(Stretch(1, 3)), True)
        self.assertIs(Stretch(2, 3).within(Stretch(1, 3)), True)
        self.assertIs(Stretch(0, 3).within(Stretch(1, 3)), False)
        self.assertIs(Stretch(1, 4).within(Stretch(1, 3)), False)
        self.assertIs(Stretch(3, 5).within(Stretch(1, 3)), False)
        self.assertIs(Stretch(5, 6).within(Stretch(1, 3)), False)

    def test_open(self):
        self.assertIs(Stretch(1, 3).within(Stretch(None, None)), True)
        self.assertIs(Stretch(None, None).within(Stretch(None, None)), True)
        self.assertIs(Stretch(None, 3).within(Stretch(None, 3)), True)
        self.assertIs(Stretch(None, 3).within(Stretch(1, 3)), False)
        self.assertIs(Stretch(1, None).within(Stretch(1, 3)), False)
        self.assertIs(Stretch(1, None).within(Stretch(0, None)), True)
        self.assertIs(Stretch(None, None).within(Stretch(None, 10 ** 12)), False)

    def test_all_small_stretches(self):
        for first in small_stretches():
            for second in small_stretches():
                self.assertIs(first.within(second), members(first) <= members(second))


class Negation(unittest.TestCase):
    def test_ends(self):
        for low, high in [(1, 3), (-3, 2), (0, 0), (None, 5), (3, None), (None, 0), (None, None)]:
            negative = -Stretch(low, high)
            self.assertIsInstance(negative, Stretch)
            self.assertEqual(negative.low, None if high is None else -high)
            self.assertEqual(negative.high, None if low is None else -low)

    def test_all_small_stretches(self):
        for stretch in small_stretches():
            self.assertEqual(members(-stretch), {-number for number in members(stretch)})
            self.assertEqual(-(-stretch), stretch)


class Equality(unittest.TestCase):
    def test_same_members(self):
        for first in small_stretches():
            for second in small_stretches():
                same = members(first) == members(second)
                self.assertIs(first == second, same)
                self.assertIs(first != second, not same)

    def test_values_of_another_kind(self):
        stretch = Stretch(0, 0)
        for other in [0, None, "0..0", (0, 0), [0], {0: 0}, {0}, range(0, 1), Offset(0, 0, 0), object(), Stretch]:
            self.assertIs(stretch == other, False)
            self.assertIs(other == stretch, False)
            self.assertIs(stretch != other, True)

    def test_values_that_look_alike(self):
        class Alike:
            low = 1
            high = 2

        self.assertIs(Stretch(1, 2) == Alike(), False)


class Writing(unittest.TestCase):
    def test_texts(self):
        for stretch, text in [(Stretch(-2, 0), "-2..0"), (Stretch(None, 5), "..5"), (Stretch(3, None), "3.."),
                              (Stretch(None, None), ".."), (Stretch(0, 0), "0..0"), (Stretch(None, 0), "..0"),
                              (Stretch(0, None), "0.."), (Stretch(-10 ** 13, -1), "-10000000000000..-1")]:
            self.assertEqual(str(stretch), text)
            self.assertEqual(f"{stretch}", text)


class Everywhere(unittest.TestCase):
    """Promise 2."""

    def test_repeated_calls(self):
        first, second = Stretch(-1, 3), Stretch(2, None)
        for call in [lambda: first.meet(second), lambda: first.within(second), lambda: -first,
                     lambda: str(first), lambda: 2 in first, lambda: first == second, lambda: Stretch(1, 2)]:
            self.assertEqual(call(), call())

    def test_operands_stay_as_they_were(self):
        first, second = Stretch(-1, 3), Stretch(2, None)
        first.meet(second)
        first.within(second)
        -first
        -second
        str(first)
        self.assertIn(2, first)
        self.assertNotEqual(first, second)
        self.assertEqual(ends(first), (-1, 3))
        self.assertEqual(ends(second), (2, None))


if __name__ == "__main__":
    unittest.main()
