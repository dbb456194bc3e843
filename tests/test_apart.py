"""Promises 48 and 49: formulas that are alike, the fewest rows that show a difference, and partings."""

import random
import unittest

from formula_models import all_lays, one_term, random_formula, rewritten
from table_samples import FALLING, ONE_SORT, PARTED, SCHEMES, THREE_SORTS, random_rows
from windowrows.answers import answer, answers
from windowrows.apart import Parting, alike, fewest_rows_apart, parting
from windowrows.errors import UnknownColumn, UnknownSort
from windowrows.formulas import count_of, number, sum_of
from windowrows.formulatext import read_formula
from windowrows.lays import Lay
from windowrows.named import (
    moving, own, part_count, peer_count, rank_of, rest, row_number, running, shifted, total,
)
from windowrows.regions import every, groups_between, keys_between, nothing, own_group, own_row, rows_between, ties
from windowrows.schemes import Scheme, Sort
from windowrows.tables import Table

# Totals by day and by best are alike, and so are those by town and by size.
PAIRED = Scheme(
    [Sort("day", "date", part="shop"), Sort("best", "points", part="shop", descending=True), Sort("town", "size")],
    parts=["shop"], values=["price", "cost"], marks=["paid", "void"],
)
FREE = Scheme([Sort("day", "date"), Sort("best", "points", descending=True)], values=["price"], marks=["paid"])
UNLIKE = Scheme(
    [Sort("day", "date", part="shop"), Sort("best", "points", part="town"), Sort("size", "size")],
    parts=["shop", "town"], values=["price"], marks=["paid"],
)
ALL_SCHEMES = [*SCHEMES, PAIRED, FREE, UNLIKE]
FAR = 10 ** 9


class Checks(unittest.TestCase):
    def check_alike(self, scheme, first, second):
        self.assertIs(alike(scheme, first, second), True)
        self.assertIs(alike(scheme, second, first), True)
        self.assertIsNone(fewest_rows_apart(scheme, first, second))
        self.assertIsNone(parting(scheme, first, second))

    def check_apart(self, scheme, first, second, rows=None):
        """Check the parting, and the number of its rows if it is told; return the number."""
        self.assertIs(alike(scheme, first, second), False)
        fewest = fewest_rows_apart(scheme, first, second)
        self.assertIs(type(fewest), int)
        self.assertEqual(fewest_rows_apart(scheme, second, first), fewest)
        if rows is not None:
            self.assertEqual(fewest, rows)
        found = parting(scheme, first, second)
        self.assertIsInstance(found, Parting)
        self.assertIsInstance(found.lay, Lay)
        self.assertTrue(found.lay.table.scheme == scheme)
        self.assertEqual(len(found.lay.table), fewest)
        self.assertIn(found.row, range(fewest))
        self.assertEqual(found.first_answer, answer(found.lay, first, found.row))
        self.assertEqual(found.second_answer, answer(found.lay, second, found.row))
        self.assertNotEqual(found.first_answer, found.second_answer)
        return fewest


class Alike(Checks):
    def test_totals(self):
        for scheme, sort, other, is_alike in [
            (PAIRED, "day", "best", True), (PAIRED, "day", "town", False), (PAIRED, "best", "town", False),
            (FREE, "day", "best", True), (UNLIKE, "day", "best", False), (UNLIKE, "best", "size", False),
            (UNLIKE, "day", "size", False), (THREE_SORTS, "day", "town", False), (FREE, "day", "day", True),
        ]:
            for formula in [total, lambda column, name: total(column, name) + 3 * part_count(name)]:
                first, second = formula("price", sort), formula("price", other)
                if is_alike:
                    self.check_alike(scheme, first, second)
                else:
                    self.check_apart(scheme, first, second, 2)
            self.assertIs(alike(scheme, part_count(sort), part_count(other)), is_alike)

    def test_totals_split_over_two_sorts(self):
        first = total("price", "day") - own("price", "day")
        second = sum_of("price", "best", ties()) + sum_of("price", "best", ~own_group())
        self.check_alike(FREE, first, second)
        self.check_alike(PAIRED, first + own("cost", "town"), second + own("cost", "best"))
        self.check_apart(UNLIKE, first, second, 2)

    def test_rewritten(self):
        dice = random.Random(48)
        for at in range(60):
            scheme = ALL_SCHEMES[at % len(ALL_SCHEMES)]
            formula, constant, terms = random_formula(dice, scheme, 4)
            self.check_alike(scheme, formula, rewritten(dice, scheme, constant, terms))

    def test_rewritten_by_hand(self):
        for first, second in [
            (
                count_of("day", rows_between(-5, 3)),
                count_of("day", rows_between(-5, -2)) + count_of("day", rows_between(-1, 3)),
            ),
            (
                total("price", "day"),
                sum_of("price", "day", every(), wanted=["paid"]) + sum_of("price", "day", every(), barred=["paid"]),
            ),
            (number(12), 12 * count_of("day", own_row())),
            (row_number("day") + own("price", "day"), own("price", "day") + row_number("day")),
            (running("price", "day") + rest("price", "day"), total("price", "day")),
            (peer_count("day") - 1, count_of("day", ties())),
            (rank_of("day"), count_of("day", groups_between(None, -1) | own_row())),
            (moving("price", "day", 0), own("price", "day")),
            (shifted("price", "day", -12) * 0, number(0)),
            (number(0), count_of("day", nothing())),
            (
                count_of("day", ties(), barred=["paid"]),
                count_of("day", ties()) - count_of("day", ties(), wanted=["paid"]),
            ),
        ]:
            self.check_alike(PARTED, first, second)
            self.check_alike(PARTED, first * 3 - 7, second * 3 - 7)
            self.check_apart(PARTED, first, second + 1, 1)

    def test_written_formulas(self):
        first = read_formula("sum(price; by day; all; not paid) + 2 * count(by day; group)")
        second = read_formula("2 * count(by day; ties) + 2 + sum(price; by day; all) - sum(price; by day; all; paid)")
        self.check_alike(PARTED, first, second)


class Apart(Checks):
    def test_own_entries(self):
        for scheme in ALL_SCHEMES:
            for sort in scheme.sort_names():
                base = running("price", sort)
                for other in [number(1), number(-FAR), own("price", sort), 3 * own("price", sort) - 3, peer_count(sort)]:
                    self.check_apart(scheme, base, base + other, 1)
        for wanted, barred in [(["paid"], []), ([], ["paid"]), (["paid", "void"], ["late"]), (["late", "void"], [])]:
            for column in ["", "price", "cost"]:
                one = one_term(column, "best", own_row(), wanted, barred)
                self.check_apart(THREE_SORTS, number(5), 5 - one, 1)

    def test_a_mark_shows_what_its_absence_hides(self):
        # Without marks, with one mark and with the other one both are equal.
        first = sum_of("price", "day", own_row(), wanted=["paid", "void"])
        self.check_apart(THREE_SORTS, first, number(0), 1)
        second = first - count_of("day", own_row(), wanted=["paid", "void", "late"])
        self.check_apart(THREE_SORTS, second, number(0), 1)
        self.check_apart(THREE_SORTS, second, first, 1)

    def test_other_entries(self):
        for scheme in ALL_SCHEMES:
            for sort in scheme.sort_names():
                away = every() - own_row()
                for other in [
                    count_of(sort, away), sum_of("price", sort, away), count_of(sort, away) - sum_of("price", sort, away),
                    count_of(sort, rows_between(1, None)), sum_of("price", sort, groups_between(1, 1)),
                    count_of(sort, keys_between(1, FAR)),
                ]:
                    self.check_apart(scheme, number(5), 5 + other, 2)
        for wanted, barred in [(["paid"], []), ([], ["paid"]), (["paid"], ["void", "late"]), (["late", "void"], [])]:
            for column in ["", "cost"]:
                other = one_term(column, "town", ~own_row(), wanted, barred)
                self.check_apart(THREE_SORTS, other * 2, number(0), 2)

    def test_parts_that_hide_each_other(self):
        # The sorts with parts make up for one without a part, and for each other.
        first = total("price", "day") + total("price", "best")
        for second in [2 * total("price", "size"), 2 * total("price", "day"), total("price", "size") + total("price", "day")]:
            self.check_apart(UNLIKE, first, second, 2)
        first = total("price", "day") - total("price", "best")
        self.check_apart(UNLIKE, first, number(0), 2)
        self.check_apart(UNLIKE, first - total("price", "size") + own("price", "day"), number(0), 2)

    def test_other_components_of_other_parts_and_sorts(self):
        # One part or sort shows the difference by a mark, another one by a value without a mark.
        away = every() - own_row()
        for first, second in [("size", "day"), ("day", "size"), ("day", "best"), ("best", "day"), ("size", "best")]:
            for window, rows in [(away, 2), (rows_between(2, 2), 3), (rows_between(-2, -2) & own_group(), 3)]:
                with_mark = count_of(first, window, wanted=["paid"])
                with_value = sum_of("price", second, window)
                for formula in [with_mark + with_value, with_mark - 3 * with_value, with_value - with_mark]:
                    self.check_apart(UNLIKE, formula, number(0), rows)
                    self.check_apart(UNLIKE, number(9), 9 - formula, rows)
        for first, second in [("day", "best"), ("best", "day")]:
            formula = count_of(first, rows_between(2, 2), wanted=["paid"]) - sum_of("price", second, rows_between(2, 2))
            self.check_apart(FREE, formula, number(0), 3)
            self.check_apart(FREE, formula + count_of(first, rows_between(5, 5)), number(0), 3)
            self.check_apart(FREE, formula + sum_of("price", first, rows_between(-4, -3)), number(0), 3)

    def test_components_further_away(self):
        # What is further away has fewer marks than what is near.
        for near, far, rows in [
            (count_of("day", rows_between(2, 2), wanted=["paid"]), count_of("day", rows_between(5, 5)), 3),
            (sum_of("price", "day", rows_between(-3, -3), wanted=["paid"]), count_of("day", rows_between(-7, -4)), 4),
            (sum_of("price", "day", rows_between(3, 3)), count_of("day", rows_between(4, 12), barred=["paid"]), 4),
        ]:
            self.check_apart(PARTED, near + far, number(0), rows)
            self.check_apart(PARTED, 5 - near, 5 - far * 2, rows)

    def test_turns(self):
        for window, rows in [
            (ties(), 2), (rows_between(-1, -1), 2), (groups_between(None, -1), 2), (keys_between(2, 2), 2),
            (keys_between(-FAR, -FAR), 2), (rows_between(2, 2), 3), (rows_between(-3, -3), 4),
            (rows_between(5, None) & own_group(), 6), (groups_between(4, None), 5), (groups_between(-6, -6), 7),
            (rows_between(12, None), 13), (rows_between(12, 12), 13), (rows_between(None, -12), 13),
            (groups_between(12, 12), 13), (groups_between(None, -12), 13), (rows_between(-12, -12) & own_group(), 13),
            (rows_between(12, 12) & groups_between(2, 3) & keys_between(FAR - 1, FAR), 13),
            (rows_between(-12, -12) & groups_between(-12, -12) & keys_between(-12, -12), 13),
            (groups_between(-11, -11) & keys_between(None, -FAR) & rows_between(-12, -12), 13),
            (rows_between(8, 8) - groups_between(None, 1), 9),
        ]:
            for scheme in ALL_SCHEMES:
                for sort in scheme.sort_names():
                    for other in [count_of(sort, window), sum_of("price", sort, window)]:
                        self.check_apart(scheme, number(3), 3 - 2 * other, rows)
            for wanted, barred in [(["paid"], []), ([], ["paid", "late"]), (["void"], ["late"])]:
                for column in ["", "cost"]:
                    other = one_term(column, "best", window, wanted, barred)
                    self.check_apart(THREE_SORTS, own("cost", "day"), own("cost", "day") + other, rows)

    def test_turns_that_differ_only_beyond_others(self):
        first = count_of("day", rows_between(-12, 12)) - sum_of("price", "best", rows_between(-7, 7))
        for other, rows in [
            (count_of("day", rows_between(-11, 12)) - sum_of("price", "best", rows_between(-7, 7)), 13),
            (count_of("day", rows_between(-12, 12)) - sum_of("price", "best", rows_between(-7, 8)), 9),
            (count_of("day", rows_between(-12, 11)) - sum_of("price", "best", rows_between(-6, 7)), 8),
            (count_of("day", rows_between(-12, 12)) - sum_of("price", "best", rows_between(-7, 7), barred=["paid"]), 1),
        ]:
            self.check_apart(THREE_SORTS, first, other, rows)
            self.check_apart(FREE, first, other, rows)

    def test_several_sorts_differ(self):
        # The difference by one sort is nearer than that by the other.
        for near, far in [("day", "best"), ("best", "day")]:
            formula = count_of(near, rows_between(3, 3)) - count_of(far, rows_between(-6, -6))
            self.check_apart(FREE, formula, number(0), 4)
            self.check_apart(PAIRED, formula + count_of("town", rows_between(9, 9)), number(0), 4)
        # Two sorts may show the same rows, so that one hides the other.
        for first, second in [(2, 2), (-2, 2), (3, 3), (-4, -4)]:
            formula = count_of("day", rows_between(first, first)) - count_of("best", rows_between(second, second))
            self.check_apart(FREE, formula, number(0), abs(first) + 1)

    def test_random_pairs(self):
        dice = random.Random(49)
        seen = set()
        for at in range(200):
            scheme = ALL_SCHEMES[at % len(ALL_SCHEMES)]
            first = random_formula(dice, scheme, 4)[0]
            second = random_formula(dice, scheme, 4)[0]
            if not alike(scheme, first, second):
                seen.add(self.check_apart(scheme, first, second))
        self.assertIn(1, seen)

    def test_nothing_differs_in_smaller_tables(self):
        dice = random.Random(50)
        for scheme in ALL_SCHEMES:
            sort = dice.choice(scheme.sort_names())
            for window in [
                ~own_row(), rows_between(2, 2), rows_between(-3, -3) & own_group(), groups_between(2, None),
                rows_between(3, None), keys_between(-2, -1),
            ]:
                first = random_formula(dice, scheme, 3)[0]
                second = first - 2 * one_term(dice.choice(["", "price"]), sort, window)
                fewest = self.check_apart(scheme, first, second)
                for count in range(fewest):
                    for _ in range(6):
                        for lay in all_lays(Table(scheme, random_rows(dice, scheme, count, dice.choice([0, 1, 2])))):
                            self.assertEqual(answers(lay, first), answers(lay, second))

    def test_alike_formulas_have_the_same_answers(self):
        dice = random.Random(51)
        for scheme in ALL_SCHEMES:
            formula, constant, terms = random_formula(dice, scheme, 4)
            other = rewritten(dice, scheme, constant, terms)
            for count in range(5):
                for lay in all_lays(Table(scheme, random_rows(dice, scheme, count, 1)))[:50]:
                    self.assertEqual(answers(lay, formula), answers(lay, other))


class Errors(Checks):
    def each(self, scheme, first, second, error, name):
        for function in [alike, fewest_rows_apart, parting]:
            with self.assertRaises(error) as caught:
                function(scheme, first, second)
            self.assertEqual(caught.exception.name, name)

    def test_the_first_formula_comes_first(self):
        good = row_number("day")
        no_sort = row_number("town") + row_number("best")
        no_column = total("nope", "day") + count_of("day", every(), barred=["gone"])
        no_mark = count_of("day", every(), wanted=["price"])
        self.each(PARTED, no_sort, good, UnknownSort, "best")
        self.each(PARTED, good, no_sort, UnknownSort, "best")
        self.each(PARTED, no_column, good, UnknownColumn, "gone")
        self.each(PARTED, good, no_column, UnknownColumn, "gone")
        self.each(PARTED, no_column, no_sort, UnknownColumn, "gone")
        self.each(PARTED, no_sort, no_column, UnknownSort, "best")
        self.each(PARTED, no_mark, no_column, UnknownColumn, "price")
        self.each(PARTED, no_column, no_mark, UnknownColumn, "gone")

    def test_terms_that_would_vanish(self):
        bad = total("price", "town")
        self.each(PARTED, bad, bad, UnknownSort, "town")
        self.each(FALLING, total("cost", "best"), total("cost", "best"), UnknownColumn, "cost")
        self.each(ONE_SORT, number(1), count_of("day", own_row(), wanted=["paid"]), UnknownColumn, "paid")


class Again(Checks):
    def test_again(self):
        first, second = running("price", "day"), running("price", "day") + count_of("day", rows_between(4, 4))
        found, again = parting(PARTED, first, second), parting(PARTED, first, second)
        self.assertTrue(found.lay == again.lay)
        self.assertEqual(
            (found.row, found.first_answer, found.second_answer), (again.row, again.first_answer, again.second_answer),
        )
        self.assertTrue(found == again)
        self.assertTrue(first == running("price", "day"))


if __name__ == "__main__":
    unittest.main()
