"""Promise 41, with promises 36 and 39 for plans, and promise 2 for them."""

import itertools
import random
import time
import unittest

from samples import OFFSETS, mixed_samples, numbers
from table_samples import (
    FALLING, ONE_SORT, PARTED, SCHEMES, THREE_SORTS, WINDOWS, answer_samples, formula_with, place_in_sort,
    plain_answers, random_lay, random_rows, random_terms, sorts_of,
)
from windowrows.answers import answers
from windowrows.cells import Cell
from windowrows.errors import OtherScheme, UnknownColumn, UnknownSort
from windowrows.formulas import count_of, number, sum_of
from windowrows.lays import first_lay, lay_at, lay_count
from windowrows.named import moving, rank_of, row_number, running, shifted
from windowrows.plans import Plan, plan_for
from windowrows.regions import (
    every, groups_between, keys_between, nothing, own_group, own_row, rows_between, ties,
)
from windowrows.schemes import Scheme, Sort
from windowrows.tables import Table

SAMPLES = answer_samples(41, 160)


def from_pieces(plan, formula, lay):
    """Return the answers by adding up the pieces over all pairs of rows."""
    rows = [lay.table.record(at) for at in range(len(lay.table))]
    found = [formula.constant] * len(rows)
    for sort, marks, column, cell, weight in plan.pieces():
        for row, other in itertools.product(range(len(rows)), repeat=2):
            offset = lay.offset(sort, row, other)
            if offset is not None and offset in cell and all(rows[other][mark] == 1 for mark in marks):
                found[row] += weight * (1 if column == "" else rows[other][column])
    return found


class Calling(unittest.TestCase):
    def test_by_every_pair(self):
        for scheme, lay, formula, expected in SAMPLES:
            plan = plan_for(scheme, formula)
            self.assertIsInstance(plan, Plan)
            found = plan(lay)
            self.assertEqual(found, expected)
            self.assertIs(type(found), list)

    def test_several_lays_in_turn(self):
        dice = random.Random(41)
        for scheme in SCHEMES:
            terms = random_terms(dice, scheme, 5)
            plan = plan_for(scheme, formula_with(-2, terms))
            lays = [random_lay(dice, scheme, count, 2) for count in [3, 0, 8, 1, 5, 8, 2]]
            for _ in range(2):
                for lay, rows, orders in lays:
                    self.assertEqual(plan(lay), plain_answers(scheme, rows, orders, -2, terms))

    def test_all_lays_of_a_table(self):
        dice = random.Random(42)
        table = Table(PARTED, random_rows(dice, PARTED, 5, 0))
        formula = formula_with(1, random_terms(dice, PARTED, 4)) + moving("price", "day", 1)
        plan = plan_for(PARTED, formula)
        for at in range(lay_count(table)):
            lay = lay_at(table, at)
            self.assertEqual(plan(lay), answers(lay, formula))

    def test_each_window_alone(self):
        dice = random.Random(43)
        for scheme in SCHEMES:
            for spread in [0, 1, 3]:
                lay, rows, orders = random_lay(dice, scheme, 9, spread)
                for sort in scheme.sort_names():
                    for window in range(len(WINDOWS)):
                        terms = [(1, scheme.value_columns[0], sort, window, [], [])]
                        expected = plain_answers(scheme, rows, orders, 0, terms)
                        self.assertEqual(plan_for(scheme, formula_with(0, terms))(lay), expected)

    def test_many_regions(self):
        dice = random.Random(44)
        for region, inside, _ in mixed_samples(41, 60):
            lay, rows, _ = random_lay(dice, PARTED, 5, 1)
            found = plan_for(PARTED, sum_of("price", "day", region))(lay)
            expected = [0] * 5
            for row, other in itertools.product(range(5), repeat=2):
                offset = lay.offset("day", row, other)
                if offset is not None and numbers(offset) in inside:
                    expected[row] += rows[other]["price"]
            self.assertEqual(found, expected)

    def test_constants(self):
        for scheme in SCHEMES:
            for count in [0, 1, 4]:
                lay, _, _ = random_lay(random.Random(count), scheme, count)
                self.assertEqual(plan_for(scheme, number(-7))(lay), [-7] * count)

    def test_a_scheme_that_is_equal(self):
        scheme = Scheme([Sort("day", "date", part="shop")], parts=["shop"], values=["price"], marks=["paid"])
        lay, _, _ = random_lay(random.Random(5), PARTED, 6)
        self.assertEqual(plan_for(scheme, row_number("day"))(lay), answers(lay, row_number("day")))

    def test_again(self):
        for scheme, lay, formula, expected in SAMPLES[:20]:
            plan = plan_for(scheme, formula)
            for _ in range(3):
                plan(lay).append(1)
                self.assertEqual(plan(lay), expected)


class Errors(unittest.TestCase):
    def test_a_lay_of_another_scheme(self):
        others = [
            Scheme([Sort("day", "date")], parts=["shop"], values=["price"], marks=["paid"]),
            Scheme([Sort("day", "date", part="shop", descending=True)], parts=["shop"], values=["price"], marks=["paid"]),
            Scheme([Sort("day", "date", part="shop")], parts=["shop"], values=["price"], marks=["paid", "void"]),
            ONE_SORT, FALLING, THREE_SORTS,
        ]
        for formula in [row_number("day"), number(3)]:
            plan = plan_for(PARTED, formula)
            for scheme in others:
                for rows in [[], [{column: 0 for column in scheme.columns()}]]:
                    with self.assertRaises(OtherScheme):
                        plan(first_lay(Table(scheme, rows)))
            self.assertEqual(len(plan(first_lay(Table(PARTED, [{"shop": 0, "date": 0, "price": 0, "paid": 0}])))), 1)

    def test_formulas_that_do_not_fit(self):
        for formula, error, name in [
            (count_of("best", every()), UnknownSort, "best"), (sum_of("cost", "day", every()), UnknownColumn, "cost"),
            (count_of("day", every(), wanted=["void"]), UnknownColumn, "void"),
            (sum_of("aaa", "zzz", every()) + count_of("yyy", every()), UnknownSort, "yyy"),
            (sum_of("zzz", "day", every(), barred=["price"]), UnknownColumn, "price"),
        ]:
            with self.assertRaises(error) as caught:
                plan_for(PARTED, formula)
            self.assertEqual(caught.exception.name, name)


class Pieces(unittest.TestCase):
    def check(self, scheme, formula, lays):
        plan = plan_for(scheme, formula)
        pieces = plan.pieces()
        self.assertIs(type(pieces), list)
        covered = {}
        for piece in pieces:
            self.assertIs(type(piece), tuple)
            sort, marks, column, cell, weight = piece
            self.assertIn(sort, scheme.sort_names())
            self.assertIs(type(marks), tuple)
            self.assertEqual(list(marks), sorted(set(marks)))
            self.assertTrue(all(mark in scheme.mark_columns for mark in marks))
            self.assertIn(column, ["", *scheme.value_columns])
            self.assertIsInstance(cell, Cell)
            self.assertIs(type(weight), int)
            self.assertNotEqual(weight, 0)
            covered.setdefault((sort, marks, column), []).append(cell)
        for cells in covered.values():
            for offset in OFFSETS:
                self.assertLessEqual(len([cell for cell in cells if offset in cell]), 1)
            for cell in cells:
                self.assertEqual(len([other for other in cells if cell.nearest() in other]), 1)
        for lay in lays:
            self.assertEqual(from_pieces(plan, formula, lay), answers(lay, formula))

    def test_samples(self):
        for scheme, lay, formula, _ in SAMPLES:
            self.check(scheme, formula, [lay])

    def test_barred_marks(self):
        dice = random.Random(46)
        lays = [random_lay(dice, THREE_SORTS, 9, 2)[0] for _ in range(3)]
        for wanted, barred in [
            ([], ["paid"]), (["void"], ["paid"]), ([], ["paid", "late"]), (["paid"], ["void", "late"]),
            ([], ["void", "paid", "late"]),
        ]:
            self.check(THREE_SORTS, count_of("day", own_group(), wanted=wanted, barred=barred), lays)
            formula = 2 * sum_of("price", "best", rows_between(-2, 1), wanted=wanted, barred=barred)
            self.check(THREE_SORTS, formula - count_of("best", ties(), wanted=barred) + 5, lays)

    def test_terms_that_overlap(self):
        dice = random.Random(47)
        lays = [random_lay(dice, PARTED, 8, 2)[0] for _ in range(3)]
        for formula in [
            rows_sum(rows_between(-2, 0)) + rows_sum(rows_between(-1, 3)) - 2 * rows_sum(groups_between(0, None)),
            rows_sum(every()) - rows_sum(own_row()) - rows_sum(ties()),
            count_of("day", every(), wanted=["paid"]) + count_of("day", every(), barred=["paid"]),
            count_of("day", keys_between(-2, 2), barred=["paid"]) - count_of("day", keys_between(-2, 2)),
        ]:
            self.check(PARTED, formula, lays)

    def test_terms_that_cancel_out(self):
        formula = rows_sum(own_group()) - rows_sum(ties()) - rows_sum(own_row())
        self.assertEqual(len(formula.terms()), 3)
        self.assertEqual(plan_for(PARTED, formula).pieces(), [])
        marks = count_of("day", every(), wanted=["paid"]) + count_of("day", every(), barred=["paid"])
        self.assertEqual(plan_for(PARTED, marks - count_of("day", every())).pieces(), [])

    def test_constants(self):
        for formula in [number(0), number(5), 4 + count_of("day", nothing())]:
            self.assertEqual(plan_for(PARTED, formula).pieces(), [])
        lay, _, _ = random_lay(random.Random(2), PARTED, 3)
        self.check(PARTED, 9 + count_of("day", own_row()), [lay])

    def test_the_told_list_is_the_callers_own(self):
        formula = count_of("day", rows_between(-2, 2), barred=["paid"])
        plan = plan_for(PARTED, formula)
        lay, _, _ = random_lay(random.Random(8), PARTED, 6)
        told = plan.pieces()
        self.assertTrue(told)
        expected = list(told)
        told.clear()
        self.assertEqual(plan.pieces(), expected)
        self.assertEqual(plan(lay), answers(lay, formula))
        self.assertEqual(plan_for(PARTED, formula).pieces(), expected)


class GreatPlans(unittest.TestCase):
    def test_great_numbers(self):
        great = 3 * 10 ** 9
        rows = [{"date": at * 10 ** 9, "price": 10 ** 12 - at} for at in range(6)]
        lay = first_lay(Table(ONE_SORT, rows))
        formula = great * sum_of("price", "day", keys_between(-10 ** 9, 2 * 10 ** 9)) - great * running("price", "day")
        for found in [formula, formula * great, great - formula]:
            self.assertEqual(plan_for(ONE_SORT, found)(lay), answers(lay, found))

    def test_many_terms(self):
        dice = random.Random(48)
        lay, rows, orders = random_lay(dice, THREE_SORTS, 7, 2)
        terms = random_terms(dice, THREE_SORTS, 25)
        found = plan_for(THREE_SORTS, formula_with(1, terms))(lay)
        self.assertEqual(found, plain_answers(THREE_SORTS, rows, orders, 1, terms))

    def test_large_tables_in_little_time(self):
        dice = random.Random(49)
        count = 1000
        rows = random_rows(dice, THREE_SORTS, count, 100)
        lay = first_lay(Table(THREE_SORTS, rows))
        formula = (
            running("price", "day") + 10 ** 6 * row_number("best") - 10 ** 12 * moving("cost", "town", 3, 2)
            + 10 ** 18 * rank_of("town") + 10 ** 24 * shifted("price", "best", -5)
        )
        began = time.perf_counter()
        found = plan_for(THREE_SORTS, formula)(lay)
        # Every pair of rows would take longer, even on a slow machine.
        self.assertLess(time.perf_counter() - began, 5)
        expected = [10 ** 18] * count
        for sort in sorts_of(THREE_SORTS):
            order = lay.order(sort.name)
            for part in self.parts(sort, rows, order):
                for place, at in enumerate(part):
                    expected[at] += self.walked(sort, rows, part, place)
        self.assertEqual(found, expected)

    def parts(self, sort, rows, order):
        found = {}
        for at in order:
            found.setdefault(place_in_sort(sort, rows[at])[0], []).append(at)
        return list(found.values())

    def walked(self, sort, rows, part, place):
        """Return what the terms of the sort add for the row at a place of its part."""
        if sort.name == "day":
            return sum(rows[at]["price"] for at in part[:place + 1])
        if sort.name == "best":
            return 10 ** 6 * (place + 1) + (10 ** 24 * rows[part[place - 5]]["price"] if place >= 5 else 0)
        own = place_in_sort(sort, rows[part[place]])
        rank = sum(place_in_sort(sort, rows[at]) < own for at in part)
        near = part[max(0, place - 3):place + 3]
        return 10 ** 18 * rank - 10 ** 12 * sum(rows[at]["cost"] for at in near)


def rows_sum(window):
    return sum_of("price", "day", window)


if __name__ == "__main__":
    unittest.main()
