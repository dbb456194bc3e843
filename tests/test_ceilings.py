"""Promises 59 to 62: the greatest answers over all tables without negative values."""

import functools
import itertools
import random
import unittest

from formula_models import all_lays
from table_samples import (
    FALLING, ONE_SORT, PARTED, SCHEMES, THREE_SORTS, WINDOWS, formula_with, random_rows, random_terms,
)
from windowrows.answers import answer, answers
from windowrows.ceilings import Ceiling, ceiling, never_above
from windowrows.errors import SeveralSorts, UnknownColumn, UnknownSort
from windowrows.formulas import count_of, number, sum_of
from windowrows.lays import Lay
from windowrows.named import (
    moving, own, part_count, peer_count, rank_of, rest, row_number, running, shifted, total,
)
from windowrows.offsets import possible
from windowrows.regions import (
    every, groups_between, keys_between, own_group, own_row, rows_between, ties,
)
from windowrows.schemes import Scheme, Sort
from windowrows.tables import Table

FREE = Scheme([Sort("day", "date"), Sort("best", "points", descending=True)], values=["price"], marks=["paid"])
ALL_SCHEMES = [*SCHEMES, FREE]
FAR = 10 ** 9

# The windows of table_samples end at 4, so nothing changes from 5 rows on.
NO_MORE_ENDS = 5
MOST_DISTANCE = 10


def subsets(names):
    return [set(chosen) for size in range(len(names) + 1) for chosen in itertools.combinations(names, size)]


class PlainCeiling:
    """The ceiling of plain terms of one sort, by trying all ways."""

    def __init__(self, scheme, constant, terms):
        self.scheme = scheme
        self.constant = constant
        self.terms = terms
        self.known = {}

    def weight(self, triple, marks, column):
        return sum(
            factor for factor, name, _, window, wanted, barred in self.terms
            if name == column and set(wanted) <= marks and not set(barred) & marks and WINDOWS[window][1](*triple)
        )

    def contribution(self, triple):
        """Return the greatest contribution at an offset, or None if it is infinite."""
        if triple not in self.known:
            choices = subsets(self.scheme.mark_columns)
            self.known[triple] = max(self.weight(triple, marks, "") for marks in choices)
            for marks, column in itertools.product(choices, self.scheme.value_columns):
                if self.weight(triple, marks, column) > 0:
                    self.known[triple] = None
                    break
        return self.known[triple]

    def best_from(self, side):
        """Return the greatest sum along a way on a side."""
        @functools.lru_cache(maxsize=None)
        def best(rows, groups, distance):
            if rows == NO_MORE_ENDS - 1:
                return 0
            places = [(groups, distance)] + [(groups + 1, size) for size in range(distance + 1, MOST_DISTANCE + 1)]
            found = [
                self.contribution((side * (rows + 1), side * group, side * size)) + best(rows + 1, group, size)
                for group, size in places
            ]
            return max([0] + found)
        return best(0, 0, 0)

    def most(self):
        triples = [
            (rows, groups, distance)
            for rows in range(-6, 7) for groups in range(-6, 7) for distance in range(-MOST_DISTANCE, MOST_DISTANCE + 1)
            if possible(rows, groups, distance)
        ]
        if any(self.contribution(triple) is None for triple in triples):
            return None
        if any(self.contribution(triple) > 0 for triple in triples if abs(triple[0]) >= NO_MORE_ENDS):
            return None
        return self.constant + self.contribution((0, 0, 0)) + self.best_from(1) + self.best_from(-1)


class Checks(unittest.TestCase):
    def check(self, scheme, formula, most, times=(0, 1, 7)):
        """Check the ceiling and return it."""
        found = ceiling(scheme, formula)
        self.assertIsInstance(found, Ceiling)
        self.assertEqual(found.most, most)
        self.assertIsInstance(found.lay, Lay)
        table = found.lay.table
        self.assertTrue(table.scheme == scheme)
        self.assertLessEqual(len(table), 27)
        rows = [table.record(at) for at in range(len(table))]
        self.assertTrue(all(row[column] >= 0 for row in rows for column in scheme.value_columns))
        self.assertIn(found.row, range(len(table)))
        if most is None:
            self.check_pump(formula, found, times)
        else:
            self.assertEqual(answer(found.lay, formula, found.row), most)
            self.assertIsNone(found.pump_row)
            self.assertIsNone(found.pump_column)
            self.assertEqual(found.gain, 0)
            for count in times:
                self.assertTrue(found.pumped(count) == found.lay)
        return found

    def check_pump(self, formula, found, times):
        scheme = found.lay.table.scheme
        self.assertGreaterEqual(found.gain, 1)
        self.assertIs(type(found.gain), int)
        self.assertIn(found.pump_row, range(len(found.lay.table)))
        self.assertIn(found.pump_column, ["", *scheme.value_columns])
        names = {term.sort_name for term in formula.terms()}
        self.assertEqual(len(names), 1)
        for count in times:
            lay = found.pumped(count)
            self.assertIsInstance(lay, Lay)
            self.assertEqual(
                answer(lay, formula, found.row), answer(found.lay, formula, found.row) + found.gain * count,
            )
            if found.pump_column == "":
                self.check_added_rows(found, lay, count, list(names)[0])
            else:
                self.check_raised_value(found, lay, count, list(names)[0])

    def check_raised_value(self, found, lay, count, sort):
        before = found.lay.table
        self.assertEqual(len(lay.table), len(before))
        for at in range(len(before)):
            row = before.record(at)
            if at == found.pump_row:
                row[found.pump_column] += count
            self.assertEqual(lay.table.record(at), row)
        self.assertEqual(lay.order(sort), found.lay.order(sort))

    def check_added_rows(self, found, lay, count, sort):
        before = found.lay.table
        self.assertEqual(len(lay.table), len(before) + count)
        for at in range(len(before)):
            self.assertEqual(lay.table.record(at), before.record(at))
        for at in range(len(before), len(lay.table)):
            self.assertEqual(lay.table.record(at), before.record(found.pump_row))
        part_of = before.scheme.sort_named(sort).part
        in_part = [
            at for at in found.lay.order(sort)
            if part_of is None or before.record(at)[part_of] == before.record(found.row)[part_of]
        ]
        self.assertIn(found.pump_row, [in_part[0], in_part[-1]])
        order = lay.order(sort)
        self.assertEqual([at for at in order if at < len(before)], found.lay.order(sort))
        place = order.index(found.pump_row)
        row_place = order.index(found.row)
        for at in range(len(before), len(lay.table)):
            if found.pump_row == in_part[-1]:
                self.assertGreater(order.index(at), place)
                self.assertGreaterEqual(place, row_place)
            else:
                self.assertLess(order.index(at), place)
                self.assertLessEqual(place, row_place)


class WrittenOut(Checks):
    def test_integers(self):
        for scheme in ALL_SCHEMES:
            for sort in scheme.sort_names():
                for formula, most in [
                    (number(7), 7), (number(-3), -3), (number(0), 0), (count_of(sort, rows_between(-2, 0)), 3),
                    (4 - row_number(sort), 3), (rank_of(sort) * -1, -1), (5 - count_of(sort, ~own_row()), 5),
                    (-own("price", sort), 0), (2 - total("price", sort), 2), (-running("price", sort) - 6, -6),
                    (count_of(sort, rows_between(-12, 12)), 25), (3 * count_of(sort, rows_between(1, 12)) - 1, 35),
                    (count_of(sort, own_row()) * 5 - count_of(sort, every()), 4),
                    (count_of(sort, rows_between(-3, 3)) - count_of(sort, rows_between(-1, 1)), 4),
                    (count_of(sort, keys_between(3, 3) & rows_between(1, 12)), 12),
                    (count_of(sort, keys_between(3, 3)) - 10 * count_of(sort, rows_between(13, None)), 12),
                    (count_of(sort, keys_between(-FAR, -FAR) & rows_between(-12, -12) & groups_between(-12, None)), 1),
                    (
                        count_of(sort, keys_between(2, 2) & rows_between(1, 1)) - count_of(sort, keys_between(4, 4))
                        + count_of(sort, keys_between(5, 5) & rows_between(2, 3)), 3,
                    ),
                    (count_of(sort, groups_between(12, 12) & rows_between(12, 12)), 1),
                    (moving("price", sort, 12, 12) * -3 + 8, 8),
                    (count_of(sort, rows_between(12, 12)) - 2 * count_of(sort, rows_between(11, 11)), 0),
                    (3 * count_of(sort, rows_between(12, 12)) - 2 * count_of(sort, rows_between(11, 11)), 1),
                ]:
                    self.check(scheme, formula, most)

    def test_distances_leave_room(self):
        # Three groups lie at the distances 4, 5 and 6 at least, or not so near.
        for scheme in [ONE_SORT, FALLING]:
            sort = scheme.sort_names()[0]
            for low, high, groups, most in [(4, 6, 3, 3), (4, 5, 3, 2), (1, 2, 3, 2), (1, 9, 3, 3), (7, None, 3, 3), (5, 5, 2, 1)]:
                window = keys_between(low, high) & rows_between(1, 12)
                # In each group only the first row counts for more than it costs.
                crowded = sum(
                    (
                        count_of(sort, window & groups_between(at, at) & rows_between(at, at))
                        for at in range(1, groups + 1)
                    ), number(0),
                )
                self.check(scheme, crowded, most)

    def test_ways_go_on_by_one_group(self):
        window = rows_between(1, 1) & groups_between(1, 1) | rows_between(2, 2) & groups_between(0, 0)
        self.check(ONE_SORT, count_of("day", window), 1)
        window = rows_between(1, 1) & groups_between(1, 1) | rows_between(2, 2) & groups_between(2, 2) & keys_between(3, 3)
        self.check(ONE_SORT, count_of("day", window), 2)
        window = rows_between(-1, -1) & keys_between(-5, -5) | rows_between(-2, -2) & keys_between(-4, -2)
        self.check(ONE_SORT, count_of("day", window), 1)
        window = rows_between(-1, -1) & keys_between(-5, -5) | rows_between(-2, -2) & keys_between(-6, -6)
        self.check(ONE_SORT, count_of("day", window), 2)

    def test_unbounded_by_values(self):
        for scheme in ALL_SCHEMES:
            for sort in scheme.sort_names():
                for formula in [
                    own("price", sort), running("price", sort), 2 * shifted("price", sort, 12), shifted("price", sort, -12) - 5,
                    sum_of("price", sort, ties()) - 7 * own("price", sort), moving("price", sort, 3, 2) - 2 * count_of(sort, every()),
                    sum_of("price", sort, groups_between(12, None)), rest("price", sort) * FAR,
                    sum_of("price", sort, keys_between(-FAR, -FAR) & rows_between(-12, -12)) - number(3) * FAR,
                    3 * shifted("price", sort, 1) - 2 * total("price", sort),
                ]:
                    found = self.check(scheme, formula, None, (0, 1, 30))
                    self.assertEqual(found.pump_column, "price")
        found = self.check(PARTED, own("price", "day"), None)
        self.assertEqual((found.pump_row, found.gain), (found.row, 1))

    def test_unbounded_by_rows(self):
        for scheme in ALL_SCHEMES:
            for sort in scheme.sort_names():
                for formula, on_past_side in [
                    (row_number(sort), True), (part_count(sort) - 9, None), (peer_count(sort), None), (rank_of(sort), True),
                    (count_of(sort, rows_between(12, None)), False), (count_of(sort, rows_between(None, -12)) * 3, True),
                    (count_of(sort, groups_between(12, 12)), False), (count_of(sort, groups_between(-12, -12)), True),
                    (count_of(sort, keys_between(FAR, FAR)) - 100 * count_of(sort, own_group()), False),
                    (count_of(sort, rows_between(3, None) & own_group()), False),
                    (count_of(sort, rows_between(3, None)) - 5 * count_of(sort, rows_between(4, 12)), False),
                    (2 * count_of(sort, rows_between(None, -9) & keys_between(-4, -4)) - total("price", sort), True),
                    (count_of(sort, rows_between(None, -1)) - 3 * count_of(sort, rows_between(1, None)), True),
                ]:
                    found = self.check(scheme, formula, None, (0, 1, 30))
                    self.assertEqual(found.pump_column, "")
                    order = found.lay.order(sort)
                    if on_past_side is not None:
                        self.assertEqual(found.pump_row, order[0] if on_past_side else order[-1])

    def test_within_and_beyond_the_largest_end(self):
        # What counts up to the row 7 only is bounded, also beside a window that ends further away.
        for sign in (1, -1):
            def between(low, high):
                return -rows_between(low, high) if sign < 0 else rows_between(low, high)
            near, far = count_of("day", between(5, 7)), count_of("day", between(8, None))
            self.check(ONE_SORT, near, 3)
            self.check(ONE_SORT, near - far, 3)
            self.check(ONE_SORT, near + far, None)
            self.check(ONE_SORT, 2 * near + 3 * far - 4 * count_of("day", between(12, None)), 6 + 12)
            self.check(ONE_SORT, near - 2 * count_of("day", between(1, 7)), 0)
            self.check(ONE_SORT, far - 5 * count_of("day", between(1, 7)), None)

    def test_marks(self):
        window = rows_between(-2, 2)
        for formula, most in [
            (count_of("day", window, wanted=["paid"]), 5), (count_of("day", window, barred=["paid"]), 5),
            (count_of("day", window, wanted=["paid"]) - count_of("day", window), 0),
            (3 * count_of("day", window, wanted=["paid"]) - count_of("day", window), 10),
            (2 * count_of("day", window, wanted=["paid"], barred=["late"]) - count_of("day", window, barred=["void"]), 10),
            (-count_of("day", every(), wanted=["paid"]), 0), (-count_of("day", every(), barred=["paid", "late"]), 0),
            (count_of("day", own_row(), wanted=["paid"]) + count_of("day", own_row(), barred=["paid"]), 1),
            (count_of("day", own_row(), wanted=["paid"]) + count_of("day", own_row(), wanted=["void", "late"]), 2),
            (4 - 2 * count_of("day", own_row(), barred=["void"]) - count_of("day", own_row(), wanted=["void"]), 3),
            (count_of("day", rows_between(1, 1), wanted=["paid"]) - sum_of("cost", "day", every(), wanted=["paid"]), 1),
            (sum_of("cost", "day", window, wanted=["paid"]) - sum_of("cost", "day", window), 0),
            (sum_of("cost", "day", window, barred=["paid", "late"]) - total("cost", "day") + 1, 1),
            (2 * sum_of("cost", "day", window, wanted=["paid"]) - sum_of("cost", "day", window), None),
            (sum_of("price", "day", window, barred=["paid"]) - sum_of("price", "day", window, barred=["late"]), None),
            (count_of("day", every(), wanted=["paid", "void"]) - count_of("day", every(), wanted=["paid"]), 0),
            (count_of("day", rows_between(-1, -1), wanted=["paid"]) + count_of("day", rows_between(1, 1), barred=["paid"]), 2),
            (count_of("day", rows_between(-3, -1), barred=["late"]) + count_of("day", rows_between(1, 2), wanted=["late"]), 5),
            (
                2 * count_of("day", rows_between(-2, 2), wanted=["late"]) - 3 * count_of("day", rows_between(1, 1), wanted=["late"])
                - 5 * count_of("day", rows_between(-2, -2), wanted=["late"]) + count_of("day", own_row(), barred=["late"]), 6,
            ),
            (count_of("day", every(), wanted=["paid", "void"], barred=["late"]), None),
            (count_of("day", every(), barred=["paid"]) - 2 * count_of("day", every(), barred=["late"]), None),
        ]:
            self.check(THREE_SORTS, formula, most)

    def test_formulas_without_terms(self):
        for scheme in ALL_SCHEMES:
            for value in [0, 5, -5, 3 * FAR]:
                self.check(scheme, number(value), value)
            self.check(scheme, running("price", scheme.sort_names()[0]) * 0 + 2, 2)

    def test_great_factors(self):
        self.check(ONE_SORT, 3 * FAR * count_of("day", rows_between(-12, 12)) - 3 * FAR, 72 * FAR)
        self.check(ONE_SORT, 3 * FAR * own("price", "day") - 3 * FAR, None, (0, 1, 30))


class SortsOfTerms(Checks):
    def test_several_sorts(self):
        for scheme, formula in [
            (THREE_SORTS, row_number("day") + row_number("best")), (FREE, total("price", "day") - total("price", "best")),
            (FREE, -own("price", "day") - own("price", "best")), (THREE_SORTS, rank_of("day") - 2 * rank_of("town")),
        ]:
            with self.assertRaises(SeveralSorts):
                ceiling(scheme, formula)

    def test_terms_that_vanish(self):
        formula = count_of("day", rows_between(-1, 1)) + running("price", "best")
        self.check(FREE, formula - running("price", "best"), 3)
        self.check(FREE, formula - formula + 4, 4)
        self.check(FREE, formula * 0, 0)
        with self.assertRaises(SeveralSorts):
            ceiling(FREE, formula * 2 - running("price", "best"))

    def test_formulas_that_do_not_fit(self):
        for scheme, formula, error, name in [
            (PARTED, row_number("town") + row_number("best"), UnknownSort, "best"),
            (THREE_SORTS, row_number("day") + row_number("best") + total("nope", "day"), UnknownColumn, "nope"),
            (FALLING, count_of("best", every(), barred=["paid"]), UnknownColumn, "paid"),
        ]:
            with self.assertRaises(error) as caught:
                ceiling(scheme, formula)
            self.assertEqual(caught.exception.name, name)


def one_sort_terms(dice, scheme):
    """Return plain terms of one sort, mostly of such kinds that there may be a ceiling."""
    sort = dice.choice(scheme.sort_names())
    terms = [(term[0], term[1], sort, *term[3:]) for term in random_terms(dice, scheme, dice.randrange(5))]
    if dice.randrange(4):
        terms = [(factor if column == "" else -abs(factor), column, *rest) for factor, column, *rest in terms]
    if dice.randrange(4):
        # A row of any kind costs more than it counts, but for the windows near by.
        terms = terms + [(-dice.choice([2, 5, 9]), "", sort, dice.choice([4, 6, 8, 11, 14, 17]), [], []) for _ in range(2)]
    return terms


class AgainstPlainLoops(Checks):
    def test_all_ways(self):
        dice = random.Random(60)
        seen = {True: 0, False: 0}
        for at in range(150):
            scheme = ALL_SCHEMES[at % len(ALL_SCHEMES)]
            constant, terms = dice.randrange(-4, 5), one_sort_terms(dice, scheme)
            most = PlainCeiling(scheme, constant, terms).most()
            formula = formula_with(constant, terms)
            if not formula.terms():
                most = formula.constant
            self.check(scheme, formula, most)
            seen[most is None] += 1
        self.assertGreater(seen[True], 30)
        self.assertGreater(seen[False], 30)

    def test_windows_that_are_bounded_by_rows(self):
        dice = random.Random(61)
        above_zero = 0
        for at in range(60):
            scheme = ALL_SCHEMES[at % len(ALL_SCHEMES)]
            sort = dice.choice(scheme.sort_names())
            terms = [
                (dice.choice([-2, -1, 1, 2, 3]), "", sort, dice.choice([1, 2, 3, 5, 7, 8, 15]), [], []) for _ in range(4)
            ]
            # Less than nothing beyond four rows: the last window has all offsets, the one before it the near ones.
            terms = terms + [(-20, "", sort, 12, [], []), (20, "", sort, 15, [], [])]
            most = PlainCeiling(scheme, 1, terms).most()
            self.check(scheme, formula_with(1, terms), most)
            above_zero += most is not None and most > 1
        self.assertGreater(above_zero, 20)

    def test_no_answer_is_above(self):
        dice = random.Random(62)
        for at in range(60):
            scheme = ALL_SCHEMES[at % len(ALL_SCHEMES)]
            formula = formula_with(dice.randrange(-4, 5), one_sort_terms(dice, scheme))
            most = ceiling(scheme, formula).most
            if most is None:
                continue
            for count in range(1, 5):
                rows = [
                    {**row, **{column: abs(row[column]) for column in scheme.value_columns}}
                    for row in random_rows(dice, scheme, count, dice.choice([0, 1, 3]))
                ]
                for lay in all_lays(Table(scheme, rows))[:30]:
                    self.assertLessEqual(max(answers(lay, formula)), most)


class NeverAbove(unittest.TestCase):
    def check(self, scheme, first, second, expected):
        self.assertIs(never_above(scheme, first, second), expected)

    def test_pairs(self):
        for scheme in ALL_SCHEMES:
            for sort in scheme.sort_names():
                base = running("price", sort) + row_number(sort)
                for more, above, below in [
                    (number(1), False, True), (number(0), True, True), (number(-2), True, False),
                    (count_of(sort, own_row()), False, True), (count_of(sort, ties()), False, True),
                    (total("price", sort), False, True), (own("price", sort) - 1, False, False),
                    (count_of(sort, own_row()) - 1, True, True), (count_of(sort, ties()) - 1, False, False),
                    (count_of(sort, rows_between(-2, 2)) - 5, True, False), (-shifted("price", sort, 12), True, False),
                ]:
                    self.check(scheme, base + more, base, above)
                    self.check(scheme, base, base + more, below)

    def test_known_orders(self):
        for first, second in [
            (rank_of("day"), row_number("day")), (row_number("day"), part_count("day")),
            (peer_count("day"), part_count("day")), (running("price", "day"), total("price", "day")),
            (shifted("price", "day", -3), running("price", "day")), (moving("price", "day", 3), moving("price", "day", 4)),
            (sum_of("price", "day", every(), wanted=["paid"]), total("price", "day")),
            (count_of("day", own_group(), barred=["paid"]), peer_count("day")),
        ]:
            self.check(PARTED, first, second, True)
            self.check(PARTED, second, first, False)
            self.check(PARTED, first, first, True)
            self.check(PARTED, first + 1, second, False)

    def test_terms_that_vanish(self):
        first = running("price", "day") + row_number("best")
        self.check(FREE, first, first + 1, True)
        self.check(FREE, first, first - 1, False)
        self.check(FREE, first, running("price", "day") + part_count("best"), True)
        for other in [running("price", "day") * 2 + 2 * row_number("best"), number(4), row_number("day")]:
            with self.assertRaises(SeveralSorts):
                never_above(FREE, first, other)
            with self.assertRaises(SeveralSorts):
                never_above(FREE, other, first)
        self.check(FREE, first, total("price", "day") + row_number("best"), True)

    def test_formulas_that_do_not_fit(self):
        good = row_number("day")
        bad_sort = row_number("town") + row_number("best")
        bad_column = total("nope", "day") + count_of("day", every(), barred=["gone"])
        for first, second, error, name in [
            (bad_sort, good, UnknownSort, "best"), (good, bad_sort, UnknownSort, "best"),
            (bad_column, good, UnknownColumn, "gone"), (good, bad_column, UnknownColumn, "gone"),
            (bad_column, bad_sort, UnknownColumn, "gone"), (bad_sort, bad_column, UnknownSort, "best"),
            (bad_sort, bad_sort, UnknownSort, "best"), (bad_column, bad_column, UnknownColumn, "gone"),
        ]:
            with self.assertRaises(error) as caught:
                never_above(PARTED, first, second)
            self.assertEqual(caught.exception.name, name)


class Again(Checks):
    def test_again(self):
        for formula in [count_of("day", rows_between(-2, 3)), row_number("day"), own("price", "day") + 3]:
            found, again = ceiling(PARTED, formula), ceiling(PARTED, formula)
            self.assertTrue(found == again)
            self.assertTrue(found.lay == again.lay)
            self.assertEqual(
                (found.most, found.row, found.pump_row, found.pump_column, found.gain),
                (again.most, again.row, again.pump_row, again.pump_column, again.gain),
            )
            kept = found.lay
            self.assertTrue(found.pumped(4) == found.pumped(4))
            self.assertTrue(found.pumped(0) == kept)
            self.assertTrue(found.lay == kept)


if __name__ == "__main__":
    unittest.main()
