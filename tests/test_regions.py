"""Promises 15 to 17, with the bounds of promise 18, and promise 2 for regions."""

import itertools
import unittest

from samples import (
    OFFSETS, TRIPLES, ZONE_OF, ZONES, basic_samples, canonical, cell_numbers, members, mixed_samples, numbers,
)
from windowrows import regions
from windowrows.cells import Cell
from windowrows.errors import TurnedStretch
from windowrows.offsets import Offset
from windowrows.regions import (
    Region, every, groups_between, keys_between, nothing, own_group, own_row, rows_between, ties, weights_of,
)
from windowrows.stretches import Stretch

BASICS = basic_samples()
SAMPLES = mixed_samples(15, 120)
ALL = set(TRIPLES)


def shape(region):
    return [cell_numbers(cell) for cell in region.cells()]


def told(inside):
    """Return the cells of a set of triples, by the definition."""
    return [cell[:4] for cell in canonical({triple: int(triple in inside) for triple in TRIPLES})]


class BasicRegions(unittest.TestCase):
    def test_by_the_definition(self):
        for region, inside, text in BASICS:
            self.assertIsInstance(region, Region)
            self.assertEqual(members(region), inside, text)

    def test_cells_by_the_definition(self):
        for region, inside, text in BASICS:
            self.assertEqual(shape(region), told(inside), text)

    def test_zones(self):
        for region, zones in [
            (own_row(), ["self"]), (own_group(), ["before", "self", "after"]), (ties(), ["before", "after"]),
            (every(), ZONES), (nothing(), []),
        ]:
            self.assertEqual([cell.zone for cell in region.cells()], zones)
            self.assertEqual(members(region), {triple for triple in TRIPLES if ZONE_OF[triple] in zones})

    def test_beside_the_ends(self):
        region = rows_between(-3, 5)
        for rows, inside in [(-4, False), (-3, True), (-1, True), (1, True), (5, True), (6, False)]:
            self.assertIs(Offset(rows, 0, 0) in region, inside)
            sign = 1 if rows > 0 else -1
            self.assertIs(Offset(rows, sign, 7 * sign) in region, inside)
        region = groups_between(-3, 5)
        for groups, inside in [(-4, False), (-3, True), (5, True), (6, False)]:
            self.assertIs(Offset(2 * groups, groups, 3 * groups) in region, inside)
        self.assertIn(Offset(-9, 0, 0), region)
        region = keys_between(-3, 5)
        for distance, inside in [(-4, False), (-3, True), (5, True), (6, False)]:
            self.assertIs(Offset(2 * distance, distance // abs(distance), distance) in region, inside)
        self.assertIn(Offset(9, 0, 0), region)

    def test_open_ends(self):
        far = 10 ** 15
        for function in (rows_between, groups_between, keys_between):
            self.assertIn(Offset(-far, -far, -far), function(None, 0))
            self.assertNotIn(Offset(far, far, far), function(None, 0))
            self.assertIn(Offset(far, far, far), function(0, None))
            self.assertNotIn(Offset(-far, -far, -far), function(0, None))
            self.assertIs(function(None, None) == every(), True)

    def test_stretches_that_do_not_contain_zero(self):
        for function in (rows_between, groups_between, keys_between):
            for low, high in [(1, 1), (2, None), (None, -1), (-4, -2)]:
                self.assertNotIn(Offset(0, 0, 0), function(low, high))
        self.assertFalse(members(groups_between(1, None)) & members(own_group()))
        self.assertFalse(members(keys_between(None, -1)) & members(own_group()))

    def test_turned_ends(self):
        for function in (rows_between, groups_between, keys_between):
            for low, high in [(1, 0), (0, -1), (12, -12), (10 ** 9, -10 ** 9)]:
                with self.assertRaises(TurnedStretch) as caught:
                    function(low, high)
                self.assertEqual((caught.exception.low, caught.exception.high), (low, high))

    def test_the_usual_bounds(self):
        self.assertEqual(shape(rows_between(12, 12)), [
            ("after", (12, 12), (0, 0), (0, 0)), ("future", (12, 12), (1, None), (1, None)),
        ])
        self.assertEqual(shape(keys_between(-10 ** 9, -10 ** 9)), [
            ("past", (None, -1), (None, -1), (-10 ** 9, -10 ** 9)),
        ])


class SetOperators(unittest.TestCase):
    PAIRS = list(zip(SAMPLES[:60], SAMPLES[60:]))

    def test_by_the_definition(self):
        for region, inside, text in SAMPLES:
            self.assertEqual(members(region), inside, text)

    def test_each_operator(self):
        for (first, ones, _), (second, others, _) in self.PAIRS:
            self.assertEqual(members(first & second), ones & others)
            self.assertEqual(members(first | second), ones | others)
            self.assertEqual(members(first - second), ones - others)
            self.assertEqual(members(first ^ second), ones ^ others)
            self.assertEqual(members(~first), ALL - ones)
            self.assertEqual(members(-first), {tuple(-number for number in triple) for triple in ones})

    def test_basic_regions_with_one_another(self):
        few = [BASICS[index] for index in range(0, len(BASICS), 7)]
        for (first, ones, _), (second, others, _) in itertools.product(few, repeat=2):
            self.assertEqual(shape(first & second), told(ones & others))
            self.assertEqual(shape(first ^ second), told(ones ^ others))

    def test_beside_the_ends_in_every_zone(self):
        region = (rows_between(-2, 3) & groups_between(-1, 1)) - own_row() | keys_between(8, 8)
        for triple, inside in [
            ((-2, 0, 0), True), ((-3, 0, 0), False), ((3, 0, 0), True), ((4, 0, 0), False), ((0, 0, 0), False),
            ((-2, -1, -9), True), ((-3, -1, -9), False), ((-2, -2, -8), False), ((3, 1, 1), True), ((4, 1, 7), False),
            ((4, 1, 8), True), ((4, 1, 9), False), ((4, 4, 8), True), ((4, 4, 9), False), ((3, 2, 7), False),
        ]:
            self.assertIs(Offset(*triple) in region, inside, triple)

    def test_rules_of_sets(self):
        for (first, _, _), (second, _, _), (third, _, _) in zip(SAMPLES[:30], SAMPLES[30:60], SAMPLES[60:90]):
            for one, other in [
                (~~first, first), (~(first & second), ~first | ~second), (~(first | second), ~first & ~second),
                (first & (second | third), (first & second) | (first & third)),
                (first | (second & third), (first | second) & (first | third)),
                (first - second, first & ~second), (first - (second | third), first - second - third),
                (first ^ second, (first | second) - (first & second)), (first ^ second ^ second, first),
                (first & first, first), (first | first, first), (first - first, nothing()), (first | ~first, every()),
                (-(first & second), -first & -second), (-~first, ~-first), (-(-first), first),
            ]:
                self.assertIs(one == other, True)
                self.assertEqual(shape(one), shape(other))

    def test_negative(self):
        self.assertIs(-rows_between(-2, 5) == rows_between(-5, 2), True)
        self.assertIs(-groups_between(3, None) == groups_between(None, -3), True)
        self.assertIs(-keys_between(None, 7) == keys_between(-7, None), True)
        self.assertIs(-own_group() == own_group(), True)
        self.assertIn(Offset(-2, 0, 0), -(ties() & rows_between(2, 2)))
        self.assertNotIn(Offset(2, 0, 0), -(ties() & rows_between(2, 2)))

    def test_results_are_regions(self):
        first, second = ties(), rows_between(0, 1)
        for result in (first & second, first | second, first - second, first ^ second, ~first, -first):
            self.assertIsInstance(result, Region)

    def test_operands_stay_as_they_were(self):
        first, second = rows_between(-2, 3) ^ groups_between(1, 2), keys_between(-4, 4)
        kept = (shape(first), shape(second))
        for _ in range(2):
            first & second, first | second, first - second, first ^ second, ~first, -first
            first == second, first.within(second), bool(first), OFFSETS[0] in first, first.rowless(), first.fewest_rows()
        self.assertEqual((shape(first), shape(second)), kept)

    def test_assignments_bind_new_objects(self):
        region = kept = rows_between(-2, 3)
        region &= groups_between(0, 1)
        region |= own_row()
        region -= ties()
        region ^= keys_between(5, 5)
        self.assertIs(kept == rows_between(-2, 3), True)
        self.assertIs(region == ((kept & groups_between(0, 1)) | own_row()) - ties() ^ keys_between(5, 5), True)


class Membership(unittest.TestCase):
    def test_values_that_are_no_offsets(self):
        for region in (every(), nothing(), own_row()):
            for value in [None, 0, "self", (0, 0, 0), [0, 0, 0], {}, object(), every(), own_row().cells()[0], Offset]:
                self.assertIs(value in region, False)

    def test_the_kind_of_the_result(self):
        self.assertIs(Offset(0, 0, 0) in own_row(), True)
        self.assertIs(Offset(1, 0, 0) in own_row(), False)


class Equality(unittest.TestCase):
    def test_made_in_different_ways(self):
        whole = rows_between(-3, 3)
        for other in [
            rows_between(-3, 0) | rows_between(1, 3), rows_between(None, 3) - rows_between(None, -4),
            ~(rows_between(None, -4) | rows_between(4, None)), rows_between(-3, 9) ^ rows_between(4, 9),
            (whole & groups_between(1, None)) | (whole - groups_between(1, None)), rows_between(-3, 5) & -whole,
        ]:
            self.assertIs(whole == other, True)
            self.assertIs(whole != other, False)

    def test_equal_sets_from_different_axes(self):
        self.assertIs(groups_between(0, 0) == keys_between(0, 0), True)
        self.assertIs(groups_between(None, -1) == keys_between(None, -1), True)
        self.assertIs(rows_between(0, 0) == own_row(), True)
        self.assertIs(groups_between(5, None) == groups_between(5, None) & rows_between(5, None), True)
        self.assertIs(groups_between(5, None) == groups_between(5, None) & rows_between(6, None), False)

    def test_by_the_sets(self):
        for (first, ones, _), (second, others, _) in itertools.product(SAMPLES[:40], repeat=2):
            self.assertIs(first == second, ones == others)
            self.assertIs(first != second, ones != others)

    def test_with_other_values(self):
        for region in (every(), nothing(), own_row()):
            for other in [None, 0, False, True, "all", "", [], (), {}, set(), region.cells(), weights_of(region, 1),
                          Region, Stretch(None, None)]:
                self.assertIs(region == other, False)
                self.assertIs(other == region, False)

    def test_bool(self):
        self.assertIs(bool(nothing()), False)
        self.assertIs(bool(ties() - own_group()), False)
        self.assertIs(bool(rows_between(1, 2) & groups_between(3, None)), False)
        self.assertIs(bool(rows_between(1, 3) & groups_between(3, None)), True)
        for region, inside, _ in SAMPLES:
            self.assertIs(bool(region), bool(inside))

    def test_within(self):
        self.assertIs(rows_between(-2, 2).within(rows_between(-3, 2)), True)
        self.assertIs(rows_between(-2, 2).within(rows_between(-2, 2)), True)
        self.assertIs(rows_between(-2, 2).within(rows_between(-1, 2)), False)
        self.assertIs(groups_between(3, None).within(rows_between(3, None)), True)
        self.assertIs(rows_between(3, None).within(groups_between(3, None)), False)
        self.assertIs(nothing().within(nothing()), True)
        self.assertIs(every().within(nothing()), False)
        for (first, ones, _), (second, others, _) in itertools.product(SAMPLES[:30], repeat=2):
            self.assertIs(first.within(second), ones <= others)
            self.assertIs((first & second).within(second), True)


class Cells(unittest.TestCase):
    def test_by_the_definition(self):
        for region, inside, text in SAMPLES:
            self.assertEqual(shape(region), told(inside), text)

    def test_the_kind_of_the_list(self):
        found = rows_between(-2, 0).cells()
        self.assertIs(type(found), list)
        self.assertTrue(all(isinstance(cell, Cell) for cell in found))
        self.assertEqual(found[1], Cell("before", Stretch(-2, -1), Stretch(0, 0), Stretch(0, 0)))

    def test_empty(self):
        self.assertEqual(nothing().cells(), [])

    def test_the_list_is_the_callers_own(self):
        region = rows_between(-2, 0)
        region.cells().clear()
        self.assertEqual(len(region.cells()), 3)
        self.assertIs(region == rows_between(-2, 0), True)

    def test_the_cells_are_the_region(self):
        for region, inside, _ in SAMPLES[:40]:
            cells = region.cells()
            for offset in OFFSETS:
                self.assertEqual(sum(offset in cell for cell in cells), int(numbers(offset) in inside))


class Rowless(unittest.TestCase):
    def by_the_definition(self, inside):
        whether = {}
        for rows, groups, distance in TRIPLES:
            if (rows, groups, distance) != (0, 0, 0):
                whether.setdefault((groups, distance), set()).add((rows, groups, distance) in inside)
        return all(len(found) == 1 for found in whether.values())

    def test_by_the_definition(self):
        for region, inside, text in SAMPLES + BASICS:
            self.assertIs(region.rowless(), self.by_the_definition(inside), text)

    def test_some(self):
        for region in [nothing(), every(), own_row(), ties(), own_group(), groups_between(-3, 2), keys_between(5, 9)]:
            self.assertIs(region.rowless(), True)
        for region in [rows_between(-1, 1), rows_between(None, 0), ties() & rows_between(1, None)]:
            self.assertIs(region.rowless(), False)


class FewestRows(unittest.TestCase):
    def test_by_the_definition(self):
        for region, inside, text in SAMPLES + BASICS:
            self.assertEqual(region.fewest_rows(), min([abs(rows) + 1 for rows, _, _ in inside], default=None), text)

    def test_some(self):
        self.assertIsNone(nothing().fewest_rows())
        self.assertEqual(own_row().fewest_rows(), 1)
        self.assertEqual(every().fewest_rows(), 1)
        self.assertEqual(ties().fewest_rows(), 2)
        self.assertEqual(rows_between(-12, -7).fewest_rows(), 8)
        self.assertEqual(groups_between(5, None).fewest_rows(), 6)
        self.assertEqual(keys_between(-10 ** 9, -10 ** 8).fewest_rows(), 2)


class Bounds(unittest.TestCase):
    def test_more_ends_than_usual(self):
        striped = nothing()
        for end in range(1, 11):
            striped = striped ^ rows_between(-2 * end, 2 * end) ^ groups_between(-2 * end, 2 * end)
            striped = striped ^ keys_between(-10 * end, 10 * end)
        for rows, groups, distance in [(1, 1, 1), (3, 2, 11), (20, 5, 90), (21, 20, 101), (21, 21, 99), (50, 1, 1)]:
            many = sum((rows <= 2 * end) + (groups <= 2 * end) + (distance <= 10 * end) for end in range(1, 11))
            self.assertIs(Offset(rows, groups, distance) in striped, many & 1 == 1)
            self.assertIs(-Offset(rows, groups, distance) in striped, many & 1 == 1)
        self.assertIs(striped ^ striped == nothing(), True)
        self.assertIs(~~striped == striped, True)

    def test_ends_far_beyond(self):
        region = rows_between(-13, 100) & keys_between(-10 ** 13, 10 ** 9 + 1)
        self.assertIn(Offset(-13, -1, -10 ** 13), region)
        self.assertNotIn(Offset(-14, -1, -10 ** 13), region)
        self.assertNotIn(Offset(100, 1, 10 ** 9 + 2), region)

    def test_ends_that_were_told(self):
        # The ends of the cells of a result may lie one further away.
        outside = ~rows_between(-12, 12)
        high = outside.cells()[0].rows.high
        low = outside.cells()[-1].rows.low
        self.assertEqual((high, low), (-13, 13))
        self.assertIs(rows_between(None, high) | rows_between(low, None) == outside, True)


class Names(unittest.TestCase):
    def test_functions_are_functions_of_the_module(self):
        for name in ("weights_of", "region_of"):
            self.assertEqual(getattr(regions, name).__module__, "windowrows.regions")


if __name__ == "__main__":
    unittest.main()
