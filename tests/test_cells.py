"""Promise 9, with the ends of promise 18, and promise 2 for cells."""

import itertools
import unittest

from windowrows.cells import Cell
from windowrows.offsets import Offset, possible
from windowrows.stretches import Stretch

ZERO = Stretch(0, 0)
SELF = Cell("self", ZERO, ZERO, ZERO)
OFFSETS = [Offset(*triple) for triple in itertools.product(range(-7, 8), repeat=3) if possible(*triple)]


def numbers(offset):
    return (offset.rows, offset.groups, offset.distance)


def future(rows, groups, distance):
    return Cell("future", Stretch(*rows), Stretch(*groups), Stretch(*distance))


def past(rows, groups, distance):
    """Return the mirror image of such a future cell."""
    return Cell("past", -Stretch(*rows), -Stretch(*groups), -Stretch(*distance))


class Attributes(unittest.TestCase):
    def test_kept_in_order(self):
        cell = future((2, 5), (1, 3), (4, None))
        self.assertEqual(cell.zone, "future")
        self.assertEqual(cell.rows, Stretch(2, 5))
        self.assertEqual(cell.groups, Stretch(1, 3))
        self.assertEqual(cell.distance, Stretch(4, None))


class Inside(unittest.TestCase):
    def check(self, cell, inside, outside):
        for triple in inside:
            self.assertIs(Offset(*triple) in cell, True, triple)
        for triple in outside:
            self.assertIs(Offset(*triple) in cell, False, triple)

    def test_self(self):
        self.check(SELF, [(0, 0, 0)], [(1, 0, 0), (-1, 0, 0), (1, 1, 1), (-1, -1, -1)])

    def test_after_and_before(self):
        after = Cell("after", Stretch(2, 4), ZERO, ZERO)
        self.check(after, [(2, 0, 0), (3, 0, 0), (4, 0, 0)],
                   [(0, 0, 0), (1, 0, 0), (5, 0, 0), (-2, 0, 0), (-4, 0, 0), (3, 1, 1), (3, 1, 3)])
        before = Cell("before", Stretch(None, -2), ZERO, ZERO)
        self.check(before, [(-2, 0, 0), (-3, 0, 0), (-1000, 0, 0)],
                   [(0, 0, 0), (-1, 0, 0), (2, 0, 0), (-2, -1, -1), (-3, -2, -2)])

    def test_beside_each_end_in_the_future(self):
        cell = future((5, 8), (2, 4), (6, 9))
        self.check(cell, [(5, 2, 6), (8, 4, 9), (5, 4, 9), (8, 2, 6), (6, 3, 7)],
                   [(4, 2, 6), (9, 2, 6), (5, 1, 6), (5, 5, 6), (5, 2, 5), (5, 2, 10)])

    def test_beside_each_end_in_the_past(self):
        cell = past((5, 8), (2, 4), (6, 9))
        self.check(cell, [(-5, -2, -6), (-8, -4, -9), (-5, -4, -9), (-8, -2, -6), (-6, -3, -7)],
                   [(-4, -2, -6), (-9, -2, -6), (-5, -1, -6), (-5, -5, -6), (-5, -2, -5), (-5, -2, -10),
                    (5, 2, 6), (8, 4, 9)])

    def test_open_ends(self):
        cell = future((1, None), (1, None), (1, None))
        self.check(cell, [(1, 1, 1), (900, 3, 10 ** 12)], [(0, 0, 0), (1, 0, 0), (-1, -1, -1), (-9, -3, -8)])

    def test_far_ends(self):
        cell = future((20, 20), (1, 20), (2 * 10 ** 9, 2 * 10 ** 9))
        self.check(cell, [(20, 1, 2 * 10 ** 9), (20, 20, 2 * 10 ** 9)],
                   [(20, 1, 2 * 10 ** 9 - 1), (20, 1, 2 * 10 ** 9 + 1), (19, 1, 2 * 10 ** 9)])

    def test_another_zone_with_the_same_numbers(self):
        # These cells hold no offset; only the zone can tell.
        self.check(Cell("future", ZERO, ZERO, ZERO), [], [(0, 0, 0)])
        self.check(Cell("before", Stretch(1, 2), ZERO, ZERO), [], [(1, 0, 0), (2, 0, 0)])
        self.check(Cell("past", Stretch(1, 2), Stretch(1, 2), Stretch(1, 2)), [], [(1, 1, 1), (2, 2, 2)])


class Nearest(unittest.TestCase):
    def check(self, cell, triple):
        nearest = cell.nearest()
        self.assertIsInstance(nearest, Offset)
        self.assertEqual(numbers(nearest), triple)
        self.assertIn(nearest, cell)

    def check_mirrored(self, rows, groups, distance, triple):
        self.check(future(rows, groups, distance), triple)
        self.check(past(rows, groups, distance), tuple(-number for number in triple))

    def test_self(self):
        self.check(SELF, (0, 0, 0))

    def test_after_and_before(self):
        for low, high in [(1, 1), (1, None), (3, 5), (20, None)]:
            self.check(Cell("after", Stretch(low, high), ZERO, ZERO), (low, 0, 0))
            self.check(Cell("before", -Stretch(low, high), ZERO, ZERO), (-low, 0, 0))

    def test_beginning_at_one(self):
        self.check_mirrored((1, None), (1, None), (1, None), (1, 1, 1))
        self.check_mirrored((1, 4), (1, 2), (1, 3), (1, 1, 1))

    def test_beginning_further_away(self):
        self.check_mirrored((5, 6), (2, 3), (4, 9), (5, 2, 4))
        self.check_mirrored((5, None), (1, None), (4, None), (5, 1, 4))
        self.check_mirrored((1, None), (1, None), (1000, 2000), (1, 1, 1000))

    def test_rows_as_large_as_groups(self):
        self.check_mirrored((1, None), (3, None), (7, None), (3, 3, 7))
        self.check_mirrored((2, 3), (3, 5), (7, 9), (3, 3, 7))

    def test_distance_as_large_as_groups(self):
        self.check_mirrored((7, None), (3, None), (1, None), (7, 3, 3))
        self.check_mirrored((7, 9), (3, 5), (2, 3), (7, 3, 3))

    def test_both_as_large_as_groups(self):
        self.check_mirrored((1, None), (4, 4), (2, None), (4, 4, 4))
        self.check_mirrored((1, 20), (20, 20), (1, 20), (20, 20, 20))

    def test_all_small_cells(self):
        stretches = [(low, high) for low in (1, 2, 4) for high in (2, 4, None) if high is None or low <= high]
        for rows, groups, distance in itertools.product(stretches, repeat=3):
            for cell in (future(rows, groups, distance), past(rows, groups, distance)):
                inside = [offset for offset in OFFSETS if offset in cell]
                if inside:
                    least = [min(abs(numbers(offset)[axis]) for offset in inside) for axis in range(3)]
                    nearest = cell.nearest()
                    self.assertIn(nearest, inside)
                    self.assertEqual([abs(number) for number in numbers(nearest)], least)


class Equality(unittest.TestCase):
    def test_zone_and_stretches(self):
        cell = future((2, 5), (1, 3), (4, None))
        self.assertIs(cell == future((2, 5), (1, 3), (4, None)), True)
        self.assertIs(cell != future((2, 5), (1, 3), (4, None)), False)
        for other in [future((3, 5), (1, 3), (4, None)), future((2, 6), (1, 3), (4, None)),
                      future((2, 5), (2, 3), (4, None)), future((2, 5), (1, None), (4, None)),
                      future((2, 5), (1, 3), (3, None)), future((2, 5), (1, 3), (4, 9)),
                      past((2, 5), (1, 3), (4, None)), SELF]:
            self.assertIs(cell == other, False)
            self.assertIs(cell != other, True)

    def test_zone_alone(self):
        self.assertIs(Cell("self", ZERO, ZERO, ZERO) == Cell("after", ZERO, ZERO, ZERO), False)

    def test_values_of_another_kind(self):
        for other in [None, 0, "self", ("self", ZERO, ZERO, ZERO), [ZERO], {}, ZERO, Offset(0, 0, 0), object(), Cell]:
            self.assertIs(SELF == other, False)
            self.assertIs(other == SELF, False)
            self.assertIs(SELF != other, True)


class Everywhere(unittest.TestCase):
    """Promise 2."""

    def test_repeated_calls(self):
        cell = past((2, 5), (1, 3), (4, None))
        self.assertEqual(cell.nearest(), cell.nearest())
        for offset in (Offset(-2, -1, -4), Offset(-1, -1, -4)):
            self.assertEqual(offset in cell, offset in cell)

    def test_operands_stay_as_they_were(self):
        rows, groups, distance = Stretch(2, 5), Stretch(1, 3), Stretch(4, None)
        cell, offset = Cell("future", rows, groups, distance), Offset(3, 1, 4)
        self.assertIn(offset, cell)
        self.assertNotEqual(cell, SELF)
        cell.nearest()
        self.assertEqual(numbers(offset), (3, 1, 4))
        self.assertEqual(cell, future((2, 5), (1, 3), (4, None)))
        self.assertEqual([rows, groups, distance], [Stretch(2, 5), Stretch(1, 3), Stretch(4, None)])


if __name__ == "__main__":
    unittest.main()
