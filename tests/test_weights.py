"""Promises 10 to 14, with the bounds of promise 18, and promise 2 for weight functions."""

import itertools
import unittest

from samples import LIMIT, TRIPLES, canonical, cell_numbers, model_of, numbers, weight_samples
from windowrows.cells import Cell
from windowrows.offsets import Offset
from windowrows.regions import (
    every, groups_between, keys_between, nothing, own_group, own_row, region_of, rows_between, ties, weights_of,
)
from windowrows.stretches import Stretch
from windowrows.weights import Weights

SAMPLES = weight_samples(10, 150)


def shape(weights):
    """Return the canonical form in plain values."""
    return [(*cell_numbers(cell), weight) for cell, weight in weights.cells()]


def one(region):
    return weights_of(region, 1)


class CanonicalForm(unittest.TestCase):
    def test_example(self):
        self.assertEqual(shape(one(rows_between(-2, 0))), [
            ("past", (-2, -1), (None, -1), (None, -1), 1),
            ("before", (-2, -1), (0, 0), (0, 0), 1),
            ("self", (0, 0), (0, 0), (0, 0), 1),
        ])

    def test_kinds_of_values(self):
        told = one(rows_between(-2, 0)).cells()
        self.assertIs(type(told), list)
        for pair in told:
            self.assertIs(type(pair), tuple)
            self.assertIsInstance(pair[0], Cell)
            self.assertIs(type(pair[1]), int)
        self.assertEqual(told[2], (Cell("self", Stretch(0, 0), Stretch(0, 0), Stretch(0, 0)), 1))

    def test_by_the_definition(self):
        for weights, model in SAMPLES:
            self.assertEqual(shape(weights), canonical(model))

    def test_no_weight(self):
        self.assertEqual(one(nothing()).cells(), [])
        self.assertEqual(weights_of(every(), 0).cells(), [])

    def test_the_same_everywhere(self):
        self.assertEqual(shape(weights_of(every(), 4)), [
            ("past", (None, -1), (None, -1), (None, -1), 4),
            ("before", (None, -1), (0, 0), (0, 0), 4),
            ("self", (0, 0), (0, 0), (0, 0), 4),
            ("after", (1, None), (0, 0), (0, 0), 4),
            ("future", (1, None), (1, None), (1, None), 4),
        ])

    def test_an_end_that_several_zones_share(self):
        self.assertEqual(shape(one(rows_between(3, None))), [
            ("after", (3, None), (0, 0), (0, 0), 1),
            ("future", (3, None), (1, None), (1, None), 1),
        ])

    def test_an_end_that_only_one_zone_has(self):
        weights = weights_of(ties() & rows_between(-2, None), 5) + weights_of(groups_between(1, None), 5)
        self.assertEqual(shape(weights), [
            ("before", (-2, -1), (0, 0), (0, 0), 5),
            ("after", (1, None), (0, 0), (0, 0), 5),
            ("future", (1, None), (1, None), (1, None), 5),
        ])

    def test_no_end_where_both_sides_have_the_same_weight(self):
        parts = one(rows_between(1, 3)) + one(rows_between(4, None))
        self.assertEqual(shape(parts), shape(one(rows_between(1, None))))
        self.assertEqual(shape(weights_of(rows_between(1, 3), 2) + one(rows_between(4, None)) * 2),
                         shape(weights_of(rows_between(1, None), 2)))

    def test_an_end_of_one_axis_that_another_axis_hides(self):
        # Without rows below 3 there are no offsets with more groups than rows.
        weights = one(groups_between(3, None)) + one(groups_between(1, 2) & rows_between(3, None))
        self.assertEqual(shape(weights), [("future", (3, None), (1, None), (1, None), 1)])

    def test_cells_without_offsets_are_left_out(self):
        # 4 groups further on need 4 rows and a distance of 4.
        weights = one(groups_between(4, None)) + weights_of(rows_between(1, 3) & keys_between(1, 3), 2)
        self.assertEqual(shape(weights - weights_of(ties(), 2) - weights_of(own_row(), 2)), [
            ("before", (None, -1), (0, 0), (0, 0), -2),
            ("self", (0, 0), (0, 0), (0, 0), -2),
            ("after", (1, None), (0, 0), (0, 0), -2),
            ("future", (1, 3), (1, 3), (1, 3), 2),
            ("future", (4, None), (4, None), (4, None), 1),
        ])

    def test_every_cell_contains_an_offset_with_the_weight(self):
        for weights, _ in SAMPLES:
            for cell, weight in weights.cells():
                self.assertIn(cell.nearest(), cell)
                self.assertEqual(weights.at(cell.nearest()), weight)

    def test_sums_that_are_cut_differently(self):
        whole = rows_between(-3, 3) & groups_between(-2, 2)
        by_rows = one(whole & rows_between(None, 0)) + one(whole & rows_between(1, None))
        by_groups = one(whole & groups_between(None, -2)) + one(whole & groups_between(-1, 1))
        by_groups = by_groups + one(whole & groups_between(2, None))
        by_keys = one(whole & keys_between(-4, 3)) + one(whole - keys_between(-4, 3))
        for weights in (by_rows, by_groups, by_keys):
            self.assertEqual(shape(weights), shape(one(whole)))


class Order(unittest.TestCase):
    def test_zones(self):
        zones = [cell.zone for cell, _ in one(every()).cells()]
        self.assertEqual(zones, ["past", "before", "self", "after", "future"])

    def test_groups_then_distance_then_rows(self):
        checked = rows_between(1, 4) ^ keys_between(1, 5) ^ groups_between(1, 2)
        for weights in (one(checked), one(-checked)):
            found = [
                [min(abs(end) for end in stretch if end is not None) for stretch in (groups, distance, rows)]
                for zone, rows, groups, distance, _ in shape(weights) if zone in ("past", "future")
            ]
            self.assertEqual(found, [[1, 1, 1], [1, 6, 5], [3, 1, 5], [3, 6, 1]])

    def test_in_the_past_by_absolute_values(self):
        weights = one(rows_between(-2, -1)) + weights_of(rows_between(None, -3), 2)
        self.assertEqual([(zone, rows) for zone, rows, *_ in shape(weights)], [
            ("past", (-2, -1)), ("past", (None, -3)), ("before", (-2, -1)), ("before", (None, -3)),
        ])


class At(unittest.TestCase):
    def test_in_every_zone(self):
        weights = weights_of(own_row(), 2) + weights_of(rows_between(None, -2), 3) + weights_of(keys_between(5, 9), -7)
        for triple, weight in [
            ((0, 0, 0), 2), ((-1, 0, 0), 0), ((-2, 0, 0), 3), ((-900, 0, 0), 3), ((1, 0, 0), 0), ((-1, -1, -1), 0),
            ((-2, -2, -2), 3), ((-2, -1, -10 ** 12), 3), ((1, 1, 4), 0), ((1, 1, 5), -7), ((9, 9, 9), -7),
            ((10, 9, 9), -7), ((10, 9, 10), 0),
        ]:
            self.assertEqual(weights.at(Offset(*triple)), weight, triple)

    def test_by_the_model(self):
        for weights, model in SAMPLES:
            self.assertEqual(model_of(weights), model)

    def test_weights_of_a_region(self):
        region = rows_between(-2, 1) - own_row()
        for number in (-3, 0, 1, 10 ** 20):
            weights = weights_of(region, number)
            self.assertIsInstance(weights, Weights)
            self.assertEqual(model_of(weights), {
                triple: number if -2 <= triple[0] <= 1 and triple != (0, 0, 0) else 0 for triple in TRIPLES
            })

    def test_region_of_weights(self):
        for weights, model in SAMPLES:
            region = region_of(weights)
            for triple, weight in model.items():
                self.assertIs(Offset(*triple) in region, weight != 0)
            self.assertIs(region == region_of(weights * -3), True)


class Arithmetic(unittest.TestCase):
    PAIRS = list(zip(SAMPLES[:60], SAMPLES[60:120]))

    def test_sums_and_differences(self):
        for (first, ones), (second, others) in self.PAIRS:
            self.assertEqual(model_of(first + second), {triple: ones[triple] + others[triple] for triple in ones})
            self.assertEqual(model_of(first - second), {triple: ones[triple] - others[triple] for triple in ones})
            self.assertEqual(shape(first + second), shape(second + first))
            self.assertEqual(shape((first + second) - second), shape(first))

    def test_negatives(self):
        for weights, model in SAMPLES[:60]:
            self.assertEqual(model_of(-weights), {triple: -weight for triple, weight in model.items()})

    def test_multiples_on_either_side(self):
        for weights, model in SAMPLES[:40]:
            for number in (-2, -1, 0, 1, 5):
                expected = canonical({triple: number * weight for triple, weight in model.items()})
                self.assertEqual(shape(weights * number), expected)
                self.assertEqual(shape(number * weights), expected)

    def test_the_kind_of_the_results(self):
        weights = one(ties())
        for result in (weights + weights, weights - weights, -weights, weights * 2, 2 * weights, weights * 0):
            self.assertIsInstance(result, Weights)

    def test_operands_stay_as_they_were(self):
        first, second = one(rows_between(-1, 2)), one(groups_between(0, 3))
        before = (shape(first), shape(second))
        for _ in range(2):
            first + second, first - second, -first, first * 3, 0 * first, first == second, bool(first)
            first.nearest(), first.turn(), region_of(first), first.at(Offset(1, 0, 0))
        self.assertEqual((shape(first), shape(second)), before)

    def test_assignments_bind_new_objects(self):
        first = kept = one(rows_between(-1, 2))
        first += one(ties())
        first -= one(own_row())
        first *= 2
        self.assertEqual(shape(kept), shape(one(rows_between(-1, 2))))
        self.assertEqual(shape(first), shape(2 * (kept + one(ties()) - one(own_row()))))

    def test_large_numbers(self):
        weights = weights_of(ties(), 10 ** 30) * 10 ** 30 + one(every())
        self.assertEqual(weights.at(Offset(1, 0, 0)), 10 ** 60 + 1)


class Equality(unittest.TestCase):
    def test_made_in_different_ways(self):
        first = one(rows_between(-2, 2))
        for other in [
            one(rows_between(-2, -1)) + one(rows_between(0, 2)),
            one(rows_between(-4, 2)) - one(rows_between(-4, -3)),
            weights_of(rows_between(-2, 2), 3) - 2 * one(rows_between(-2, 2)),
            -weights_of(~~rows_between(-2, 2), -1),
        ]:
            self.assertIs(first == other, True)
            self.assertIs(first != other, False)

    def test_as_the_models(self):
        for (first, ones), (second, others) in itertools.product(SAMPLES[:40], repeat=2):
            self.assertIs(first == second, ones == others)

    def test_differences_in_one_place(self):
        weights = one(every())
        for other in [weights * 2, weights + one(own_row()), weights - one(ties() & rows_between(7, 7)),
                      weights + one(keys_between(10 ** 9, 10 ** 9)), one(nothing())]:
            self.assertIs(weights == other, False)
            self.assertIs(weights != other, True)

    def test_values_of_another_kind(self):
        for weights in (one(every()), one(nothing())):
            for other in [0, 1, None, "", [], {}, (), weights.cells(), region_of(weights), Weights, False, True]:
                self.assertIs(weights == other, False)
                self.assertIs(other == weights, False)

    def test_bool(self):
        self.assertIs(bool(one(nothing())), False)
        self.assertIs(bool(one(every()) * 0), False)
        self.assertIs(bool(one(every()) - one(ties()) - one(~ties())), False)
        self.assertIs(bool(-one(own_row())), True)
        self.assertIs(bool(one(keys_between(10 ** 9, None))), True)
        for weights, model in SAMPLES:
            self.assertIs(bool(weights), any(model.values()))


class ToldLists(unittest.TestCase):
    def test_the_list_is_the_callers_own(self):
        weights = one(rows_between(-2, 0))
        told = weights.cells()
        told.clear()
        self.assertEqual(len(weights.cells()), 3)
        self.assertIs(weights == one(rows_between(-2, 0)), True)
        self.assertEqual(weights.at(Offset(0, 0, 0)), 1)


class Nearest(unittest.TestCase):
    def test_by_the_definition(self):
        for weights, model in SAMPLES:
            found = [abs(triple[0]) for triple, weight in model.items() if weight != 0 and triple != (0, 0, 0)]
            self.assertEqual(weights.nearest(), min(found, default=None))

    def test_none(self):
        self.assertIsNone(one(nothing()).nearest())
        self.assertIsNone(weights_of(own_row(), 7).nearest())

    def test_rows(self):
        self.assertEqual(one(rows_between(-12, -9)).nearest(), 9)
        self.assertEqual(one(rows_between(-12, -9) | rows_between(8, 8)).nearest(), 8)
        self.assertEqual(one(own_group()).nearest(), 1)
        self.assertEqual((-one(ties() & rows_between(None, -4))).nearest(), 4)

    def test_groups_need_as_many_rows(self):
        self.assertEqual(one(groups_between(5, 6)).nearest(), 5)
        self.assertEqual(one(groups_between(-12, -7)).nearest(), 7)

    def test_keys_need_one_row(self):
        self.assertEqual(one(keys_between(5, 10 ** 9)).nearest(), 1)
        self.assertEqual(one(keys_between(5, 10 ** 9) & groups_between(3, 4)).nearest(), 3)


class Turn(unittest.TestCase):
    def by_the_definition(self, model):
        for most in range(1, LIMIT + 1):
            seen = {}
            for (rows, groups, distance), weight in model.items():
                if abs(rows) <= most and (rows, groups, distance) != (0, 0, 0):
                    seen.setdefault((groups, distance), set()).add(weight)
            if any(len(weights) > 1 for weights in seen.values()):
                return most
        return None

    def test_by_the_definition(self):
        results = set()
        for weights, model in SAMPLES:
            results.add(weights.turn())
            self.assertEqual(weights.turn(), self.by_the_definition(model))
        self.assertLessEqual({None, 1, 2, 3}, results)

    def test_example(self):
        self.assertEqual(one(rows_between(-2, 0)).turn(), 1)

    def test_groups_and_keys_alone(self):
        for region in [every(), nothing(), own_row(), own_group(), ties(), groups_between(-2, 3), keys_between(-9, 0),
                       groups_between(1, 3) & keys_between(2, 8) | own_row()]:
            self.assertIsNone(weights_of(region, 3).turn())

    def test_only_before_and_after_differ(self):
        self.assertEqual((weights_of(every(), 4) - one(ties() & rows_between(1, None))).turn(), 1)
        self.assertEqual(one(ties() & rows_between(None, -1)).turn(), 1)

    def test_self_is_apart(self):
        self.assertIsNone(weights_of(own_row(), 9).turn())
        self.assertEqual(one(ties() & rows_between(-2, 2)).turn(), 3)

    def test_the_least_of_several_zones(self):
        for low, high, expected in [(-3, 3, 4), (-5, 3, 4), (-3, 5, 4), (-7, 7, 8)]:
            self.assertEqual(one(rows_between(low, high)).turn(), expected)
        self.assertEqual(one(groups_between(1, None) & rows_between(3, None)).turn(), 3)
        self.assertEqual(one(groups_between(None, -1) & rows_between(-9, None)).turn(), 10)
        self.assertEqual(one(groups_between(2, 2) & rows_between(2, 4)).turn(), 5)
        self.assertIsNone(one(groups_between(4, None) & rows_between(4, None)).turn())


class Bounds(unittest.TestCase):
    def test_many_ends(self):
        total, model = one(nothing()), {}
        for end in range(1, 10):
            total = total + one(rows_between(-2 * end, 2 * end)) + one(groups_between(-2 * end, 2 * end)) * 20
            total = total + weights_of(keys_between(-10 ** 8 * end, 10 ** 8 * end), 400)
        for rows, groups, distance in [(1, 1, 1), (3, 2, 10 ** 8), (18, 17, 9 * 10 ** 8), (19, 18, 9 * 10 ** 8 + 1),
                                       (12, 12, 5 * 10 ** 8), (30, 1, 4)]:
            model = sum(
                (rows <= 2 * end) + 20 * (groups <= 2 * end) + 400 * (distance <= 10 ** 8 * end)
                for end in range(1, 10)
            )
            self.assertEqual(total.at(Offset(rows, groups, distance)), model)
            self.assertEqual(total.at(-Offset(rows, groups, distance)), model)
        self.assertIs(total - total == one(nothing()), True)

    def test_ends_beyond_the_usual_ones(self):
        weights = one(rows_between(-100, 10 ** 6) & groups_between(-50, 10 ** 5) & keys_between(-10 ** 12, 10 ** 13))
        self.assertEqual(weights.at(Offset(10 ** 6, 10 ** 5, 10 ** 13)), 1)
        self.assertEqual(weights.at(Offset(10 ** 6 + 1, 10 ** 5, 10 ** 13)), 0)
        self.assertEqual(weights.turn(), 101)

    def test_numbers_of_the_cells(self):
        for cell, _ in one(rows_between(2, 3) | groups_between(-4, -2)).cells():
            self.assertTrue(all(isinstance(number, int) for number in numbers(cell.nearest())))


if __name__ == "__main__":
    unittest.main()
