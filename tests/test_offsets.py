"""Promises 7 and 8, and promise 2 for offsets."""

import itertools
import unittest

from windowrows.errors import BadOffset
from windowrows.offsets import Offset, possible
from windowrows.stretches import Stretch

CUBE = list(itertools.product(range(-4, 5), repeat=3))

IN_ZONES = [
    ("self", (0, 0, 0)),
    ("after", (1, 0, 0)),
    ("after", (40, 0, 0)),
    ("before", (-1, 0, 0)),
    ("before", (-40, 0, 0)),
    ("future", (1, 1, 1)),
    ("future", (5, 1, 1)),
    ("future", (1, 1, 10 ** 10)),
    ("future", (3, 3, 3)),
    ("future", (4, 3, 7)),
    ("past", (-1, -1, -1)),
    ("past", (-5, -1, -1)),
    ("past", (-1, -1, -10 ** 10)),
    ("past", (-3, -3, -3)),
    ("past", (-4, -3, -7)),
]

JUST_NOT_POSSIBLE = [
    (0, 0, 1), (0, 0, -1), (0, 1, 0), (0, -1, 0),
    (1, 0, 1), (-1, 0, -1), (1, 1, 0), (-1, -1, 0), (0, 1, 1), (0, -1, -1),
    (1, 2, 2), (2, 2, 1), (-1, -2, -2), (-2, -2, -1),
    (1, 1, -1), (1, -1, 1), (-1, 1, 1), (-1, -1, 1), (-1, 1, -1), (1, -1, -1),
    (10, 3, 2), (2, 3, 10), (-10, -3, -2), (-2, -3, -10),
    (1, 0, -1), (-1, 0, 1), (5, 0, 5), (5, 5, 0),
]


def zone_by_the_words(rows, groups, distance):
    """Return the zone of point 7, or None, form by form."""
    zones = []
    if (rows, groups, distance) == (0, 0, 0):
        zones.append("self")
    if groups == 0 and distance == 0 and rows >= 1:
        zones.append("after")
    if groups == 0 and distance == 0 and rows <= -1:
        zones.append("before")
    if groups >= 1 and rows >= groups and distance >= groups:
        zones.append("future")
    if -groups >= 1 and -rows >= -groups and -distance >= -groups:
        zones.append("past")
    return zones[0] if zones else None


def numbers(offset):
    return (offset.rows, offset.groups, offset.distance)


class Possible(unittest.TestCase):
    def test_zones(self):
        for _, triple in IN_ZONES:
            self.assertIs(possible(*triple), True, triple)

    def test_just_not_possible(self):
        for triple in JUST_NOT_POSSIBLE:
            self.assertIs(possible(*triple), False, triple)

    def test_all_small_triples(self):
        for triple in CUBE:
            self.assertIs(possible(*triple), zone_by_the_words(*triple) is not None, triple)

    def test_arguments_by_name(self):
        self.assertIs(possible(rows=3, groups=2, distance=5), True)
        self.assertIs(possible(distance=5, groups=3, rows=2), False)
        self.assertIs(possible(5, distance=2, groups=3), False)

    def test_repeated_calls(self):
        for triple in [(1, 1, 1), (1, 2, 3)]:
            self.assertEqual(possible(*triple), possible(*triple))


class Making(unittest.TestCase):
    def test_attributes(self):
        for zone, triple in IN_ZONES:
            offset = Offset(*triple)
            self.assertEqual(numbers(offset), triple)
            self.assertEqual(offset.zone, zone)

    def test_arguments_by_name(self):
        offset = Offset(rows=3, groups=2, distance=5)
        self.assertEqual(numbers(offset), (3, 2, 5))
        offset = Offset(-7, distance=-9, groups=-4)
        self.assertEqual(numbers(offset), (-7, -4, -9))

    def test_not_possible(self):
        for triple in JUST_NOT_POSSIBLE:
            with self.assertRaises(BadOffset) as caught:
                Offset(*triple)
            self.assertEqual(numbers(caught.exception), triple)

    def test_not_possible_by_name(self):
        with self.assertRaises(BadOffset) as caught:
            Offset(distance=3, rows=1, groups=2)
        self.assertEqual(numbers(caught.exception), (1, 2, 3))

    def test_all_small_triples(self):
        for triple in CUBE:
            zone = zone_by_the_words(*triple)
            if zone is None:
                with self.assertRaises(BadOffset) as caught:
                    Offset(*triple)
                self.assertEqual(numbers(caught.exception), triple)
            else:
                self.assertEqual(Offset(*triple).zone, zone)
                self.assertEqual(numbers(Offset(*triple)), triple)


class FewestRows(unittest.TestCase):
    def test_one_more_than_rows(self):
        for triple, fewest in [((0, 0, 0), 1), ((1, 0, 0), 2), ((-1, 0, 0), 2), ((12, 0, 0), 13),
                               ((3, 2, 9), 4), ((-3, -2, -9), 4), ((-40, -1, -1), 41)]:
            self.assertEqual(Offset(*triple).fewest_rows(), fewest)


class Negation(unittest.TestCase):
    def test_every_zone(self):
        negative_zones = {"self": "self", "after": "before", "before": "after", "future": "past", "past": "future"}
        for zone, triple in IN_ZONES:
            negative = -Offset(*triple)
            self.assertIsInstance(negative, Offset)
            self.assertEqual(numbers(negative), tuple(-number for number in triple))
            self.assertEqual(negative.zone, negative_zones[zone])
            self.assertEqual(-negative, Offset(*triple))


class Addition(unittest.TestCase):
    def test_possible_sums(self):
        for first, second, third in [
            ((0, 0, 0), (0, 0, 0), (0, 0, 0)),
            ((2, 0, 0), (-2, 0, 0), (0, 0, 0)),
            ((1, 0, 0), (2, 0, 0), (3, 0, 0)),
            ((1, 1, 1), (1, 1, 1), (2, 2, 2)),
            ((5, 2, 7), (-5, -2, -7), (0, 0, 0)),
            ((3, 1, 4), (-1, 0, 0), (2, 1, 4)),
            ((-6, -3, -9), (2, 2, 2), (-4, -1, -7)),
            ((0, 0, 0), (-2, -1, -3), (-2, -1, -3)),
        ]:
            total = Offset(*first) + Offset(*second)
            self.assertIsInstance(total, Offset)
            self.assertEqual(numbers(total), third)
            self.assertEqual(total, Offset(*third))
            self.assertEqual(total.zone, Offset(*third).zone)
            self.assertEqual(Offset(*second) + Offset(*first), total)

    def test_sums_that_are_not_possible(self):
        for first, second, third in [
            ((1, 1, 5), (-1, -1, -4), (0, 0, 1)),
            ((1, 1, 1), (-1, 0, 0), (0, 1, 1)),
            ((2, 2, 2), (-1, -1, -2), (1, 1, 0)),
            ((3, 1, 1), (-2, -1, -3), (1, 0, -2)),
            ((-1, -1, -1), (2, 0, 0), (1, -1, -1)),
        ]:
            with self.assertRaises(BadOffset) as caught:
                Offset(*first) + Offset(*second)
            self.assertEqual(numbers(caught.exception), third)

    def test_all_small_sums(self):
        offsets = [Offset(*triple) for triple in itertools.product(range(-2, 3), repeat=3) if possible(*triple)]
        for first, second in itertools.product(offsets, repeat=2):
            third = tuple(one + two for one, two in zip(numbers(first), numbers(second)))
            if zone_by_the_words(*third) is None:
                with self.assertRaises(BadOffset) as caught:
                    first + second
                self.assertEqual(numbers(caught.exception), third)
            else:
                self.assertEqual(numbers(first + second), third)


class Equality(unittest.TestCase):
    def test_three_numbers(self):
        triples = [triple for triple in CUBE if possible(*triple)]
        for first in triples:
            self.assertIs(Offset(*first) == Offset(*first), True)
            self.assertIs(Offset(*first) != Offset(*first), False)
        for first, second in [((3, 2, 2), (4, 2, 2)), ((4, 2, 4), (4, 1, 4)), ((3, 2, 2), (3, 2, 3)),
                              ((0, 0, 0), (1, 0, 0)), ((1, 0, 0), (-1, 0, 0)), ((1, 1, 1), (-1, -1, -1))]:
            self.assertIs(Offset(*first) == Offset(*second), False)
            self.assertIs(Offset(*first) != Offset(*second), True)

    def test_values_of_another_kind(self):
        offset = Offset(0, 0, 0)
        for other in [0, None, "self", (0, 0, 0), [0, 0, 0], {"rows": 0}, {0}, Stretch(0, 0),
                      BadOffset(0, 0, 0), object(), Offset]:
            self.assertIs(offset == other, False)
            self.assertIs(other == offset, False)
            self.assertIs(offset != other, True)


class Everywhere(unittest.TestCase):
    """Promise 2."""

    def test_repeated_calls(self):
        first, second = Offset(3, 1, 4), Offset(-1, 0, 0)
        for call in [lambda: first + second, lambda: -first, lambda: first.fewest_rows(),
                     lambda: first == second, lambda: Offset(3, 1, 4)]:
            self.assertEqual(call(), call())

    def test_operands_stay_as_they_were(self):
        first, second = Offset(3, 1, 4), Offset(-1, 0, 0)
        first + second
        -first
        first.fewest_rows()
        self.assertNotEqual(first, second)
        with self.assertRaises(BadOffset):
            first + Offset(-3, -1, -3)
        self.assertEqual((numbers(first), first.zone), ((3, 1, 4), "future"))
        self.assertEqual((numbers(second), second.zone), ((-1, 0, 0), "before"))

    def test_assignment_binds_a_new_object(self):
        first = Offset(3, 1, 4)
        total = first
        total += Offset(1, 1, 1)
        self.assertEqual(numbers(total), (4, 2, 5))
        self.assertEqual(numbers(first), (3, 1, 4))
        self.assertIsNot(total, first)

    def test_failed_assignment_changes_nothing(self):
        first = Offset(1, 1, 1)
        total = first
        with self.assertRaises(BadOffset):
            total += Offset(-1, 0, 0)
        self.assertIs(total, first)
        self.assertEqual(numbers(first), (1, 1, 1))


if __name__ == "__main__":
    unittest.main()
