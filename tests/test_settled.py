"""Promises 51 and 52: the sorts in which a formula looks at rows, settled formulas, and swings."""

import random
import unittest

from formula_models import all_lays, plain_turn_by_sort, random_formula, rewritten
from table_samples import FALLING, ONE_SORT, PARTED, SCHEMES, THREE_SORTS, random_rows
from windowrows.answers import answer, answers
from windowrows.errors import UnknownColumn, UnknownSort
from windowrows.formulas import count_of, number, sum_of
from windowrows.lays import Lay
from windowrows.named import (
    moving, own, part_count, peer_count, rank_of, rest, row_number, running, shifted, total,
)
from windowrows.regions import every, groups_between, keys_between, own_group, own_row, rows_between, ties
from windowrows.schemes import Scheme, Sort
from windowrows.settled import Swing, fewest_rows_to_swing, row_sorts, settled, swing
from windowrows.tables import Table

FREE = Scheme([Sort("day", "date"), Sort("best", "points", descending=True)], values=["price"], marks=["paid"])
ALL_SCHEMES = [*SCHEMES, FREE]
FAR = 10 ** 9

# Windows that look at rows, with the number of rows that shows it.
OPEN_WINDOWS = [
    (rows_between(None, 0), 2), (rows_between(None, -1), 2), (rows_between(1, 1), 2), (rows_between(0, 5), 2),
    (rows_between(-1, 1), 3), (rows_between(2, None), 3), (rows_between(2, 2), 3), (rows_between(-2, 2), 4),
    (rows_between(-1, 1) & own_group(), 3), (rows_between(1, 1) & groups_between(1, 1), 3),
    (rows_between(-1, -1) - own_group(), 3), (rows_between(-2, -2) & groups_between(-1, -1), 3),
    (rows_between(-2, -2) & groups_between(-2, -2), 4), (rows_between(None, -3) & own_group(), 4),
    (rows_between(-3, 3) | groups_between(0, 0), 5), (rows_between(5, 6) & groups_between(2, 4), 6),
    (rows_between(-6, -5) & groups_between(-6, -6), 8), (rows_between(-11, 11), 13), (rows_between(12, None), 13),
    (rows_between(None, -12), 13), (rows_between(-12, 12), 14), (rows_between(12, 12) & own_group(), 13),
    (rows_between(12, 12) & groups_between(12, None), 14), (rows_between(12, 12) & groups_between(11, 11), 13),
    (rows_between(-12, -12) & groups_between(-11, -11), 13), (rows_between(-12, -12) & groups_between(-12, -12), 14),
    (rows_between(12, 12) & keys_between(FAR, FAR), 13), (rows_between(-12, -12) & keys_between(-FAR, 1 - FAR), 13),
    (rows_between(4, None) & keys_between(2, 2), 5), (rows_between(4, None) & groups_between(3, None), 5),
]


class Checks(unittest.TestCase):
    def check_settled(self, scheme, formula):
        self.assertEqual(row_sorts(scheme, formula), [])
        self.assertIs(settled(scheme, formula), True)
        self.assertIsNone(fewest_rows_to_swing(scheme, formula))
        self.assertIsNone(swing(scheme, formula))

    def check_open(self, scheme, formula, names, rows):
        self.assertEqual(row_sorts(scheme, formula), names)
        self.assertIs(settled(scheme, formula), False)
        self.assertEqual(fewest_rows_to_swing(scheme, formula), rows)
        found = swing(scheme, formula)
        self.assertIsInstance(found, Swing)
        self.assertIsInstance(found.lay, Lay)
        self.assertTrue(found.lay.table.scheme == scheme)
        self.assertEqual(len(found.lay.table), rows)
        self.assertIn(found.sort_name, names)
        self.assertIs(type(found.pair), tuple)
        first, second = found.pair
        exchanges = found.lay.exchanges()
        self.assertTrue((found.sort_name, first, second) in exchanges or (found.sort_name, second, first) in exchanges)
        self.assertTrue(found.other_lay == found.lay.exchanged(found.sort_name, first, second))
        self.assertIn(found.row, range(rows))
        self.assertEqual(found.first_answer, answer(found.lay, formula, found.row))
        self.assertEqual(found.second_answer, answer(found.other_lay, formula, found.row))
        self.assertNotEqual(found.first_answer, found.second_answer)


class Examples(Checks):
    def test_examples_of_the_document(self):
        self.check_open(PARTED, row_number("day") + 3 * total("price", "day"), ["day"], 2)
        self.check_settled(PARTED, running("price", "day") + rest("price", "day"))

    def test_named_formulas(self):
        for formula in [
            rank_of("day"), peer_count("day"), part_count("day"), own("price", "day"), total("price", "day"), number(7),
            moving("price", "day", 0),
        ]:
            self.check_settled(PARTED, formula)
        for formula, rows in [
            (row_number("day"), 2), (running("price", "day"), 2), (rest("price", "day"), 2),
            (moving("price", "day", 1), 2), (moving("price", "day", 0, 3), 2), (moving("price", "day", 4, 4), 6),
            (moving("price", "day", 12, 12), 14), (shifted("price", "day", 1), 2), (shifted("price", "day", -1), 2),
            (shifted("price", "day", 5), 6), (shifted("price", "day", -12), 13),
        ]:
            self.check_open(PARTED, formula, ["day"], rows)
            self.check_open(PARTED, 5 - 2 * formula, ["day"], rows)

    def test_open_windows(self):
        for window, rows in OPEN_WINDOWS:
            for scheme in ALL_SCHEMES:
                for sort in scheme.sort_names():
                    self.check_open(scheme, count_of(sort, window) - 3, [sort], rows)
                    self.check_open(scheme, 2 * sum_of("price", sort, window), [sort], rows)
                    self.check_open(scheme, count_of(sort, ~window), [sort], rows)

    def test_settled_windows(self):
        for window in [
            own_row(), own_group(), ties(), every(), groups_between(-3, 7), groups_between(12, None),
            keys_between(-FAR, 3), keys_between(0, 0), groups_between(2, 2) & keys_between(3, 4), ~own_row(),
            rows_between(0, 0), rows_between(4, None) & groups_between(4, None), rows_between(None, None),
            rows_between(-1, 1) | ~own_row(),
        ]:
            for scheme in ALL_SCHEMES:
                for sort in scheme.sort_names():
                    self.check_settled(scheme, 4 * count_of(sort, window) - sum_of("price", sort, window))

    def test_marks(self):
        for wanted, barred in [(["paid"], []), ([], ["paid"]), (["paid", "void"], ["late"]), ([], ["late", "void"])]:
            for window, rows in OPEN_WINDOWS[::4]:
                for formula in [
                    count_of("town", window, wanted=wanted, barred=barred),
                    5 - sum_of("cost", "town", window, wanted=wanted, barred=barred),
                ]:
                    self.check_open(THREE_SORTS, formula, ["town"], rows)
                    self.check_settled(THREE_SORTS, formula - formula)

    def test_components_that_make_up_for_each_other(self):
        with_paid = sum_of("price", "day", rows_between(-2, 2), wanted=["paid"])
        without_paid = sum_of("price", "day", rows_between(-2, 2), barred=["paid"])
        beyond = sum_of("price", "day", ~rows_between(-2, 2))
        self.check_settled(PARTED, with_paid + without_paid + beyond)
        self.check_open(PARTED, with_paid + without_paid, ["day"], 4)
        self.check_open(PARTED, with_paid + beyond, ["day"], 4)
        self.check_open(PARTED, with_paid + without_paid + 2 * beyond, ["day"], 4)

    def test_far_and_near_components(self):
        near = sum_of("price", "day", rows_between(-2, 2), wanted=["paid"])
        far = count_of("day", rows_between(-9, 9))
        self.check_open(PARTED, near + far, ["day"], 4)
        self.check_open(PARTED, far, ["day"], 11)
        self.check_open(PARTED, far + count_of("day", rows_between(-12, 5)), ["day"], 7)
        self.check_open(PARTED, count_of("day", rows_between(-3, 12)), ["day"], 5)
        self.check_open(PARTED, far - count_of("day", rows_between(-9, 8)), ["day"], 10)


    def test_sides_that_weigh_unlike(self):
        # What changes on one side becomes what the other side weighs everywhere.
        for scheme in ALL_SCHEMES:
            for sort in scheme.sort_names():
                for end, rows in [(2, 3), (3, 4), (12, 13)]:
                    past = rows_between(None, -end) & groups_between(None, -1)
                    future = rows_between(end, None) & groups_between(1, None)
                    for window, other in [(past, groups_between(1, None)), (future, groups_between(None, -1))]:
                        self.check_open(scheme, count_of(sort, window) + count_of(sort, other), [sort], rows)
                        self.check_open(scheme, 2 * sum_of("price", sort, window | other) - 3, [sort], rows)


class SeveralSorts(Checks):
    def test_order_of_the_scheme(self):
        for names, rows in [
            ([], None), (["day"], 2), (["best"], 4), (["town"], 13), (["day", "best"], 2), (["day", "town"], 2),
            (["best", "town"], 4), (["day", "best", "town"], 2),
        ]:
            formula = total("price", "town") + rank_of("best") - peer_count("day") * 2
            if "town" in names:
                formula = formula + shifted("cost", "town", -12)
            if "best" in names:
                formula = formula + moving("price", "best", 2, 2)
            if "day" in names:
                formula = formula + row_number("day")
            if names:
                self.check_open(THREE_SORTS, formula, names, rows)
            else:
                self.check_settled(THREE_SORTS, formula)

    def test_sorts_do_not_make_up_for_each_other(self):
        self.check_open(FREE, running("price", "day") + rest("price", "best"), ["day", "best"], 2)
        self.check_open(FREE, row_number("day") - row_number("best"), ["day", "best"], 2)
        self.check_open(FREE, row_number("best") + part_count("day"), ["best"], 2)

    def test_equal_turns(self):
        formula = moving("price", "day", 3, 3) + moving("price", "best", 3, 3)
        self.check_open(FREE, formula, ["day", "best"], 5)


class AgainstPlainLoops(Checks):
    def test_random_formulas(self):
        dice = random.Random(51)
        seen = set()
        for at in range(120):
            scheme = ALL_SCHEMES[at % len(ALL_SCHEMES)]
            formula, constant, terms = random_formula(dice, scheme, 3)
            turns = plain_turn_by_sort(scheme, terms)
            seen.add(len(turns))
            for same in [formula, rewritten(dice, scheme, constant, terms)]:
                if turns:
                    names = [name for name in scheme.sort_names() if name in turns]
                    self.check_open(scheme, same, names, min(turns.values()) + 1)
                else:
                    self.check_settled(scheme, same)
        self.assertLessEqual({0, 1, 2}, seen)

    def test_settled_formulas_in_all_lays(self):
        dice = random.Random(52)
        for scheme in ALL_SCHEMES:
            for sort in scheme.sort_names():
                formula = (
                    running("price", sort) + rest("price", sort) + 2 * rank_of(sort)
                    - count_of(sort, groups_between(-2, 1) & keys_between(None, 3))
                )
                self.check_settled(scheme, formula)
                for count in [2, 3, 4, 4]:
                    table = Table(scheme, random_rows(dice, scheme, count, dice.choice([0, 1])))
                    found = [answers(lay, formula) for lay in all_lays(table)]
                    self.assertEqual(found, [found[0]] * len(found))

    def test_smaller_tables_do_not_swing(self):
        dice = random.Random(53)
        for scheme in ALL_SCHEMES:
            sort = dice.choice(scheme.sort_names())
            for window in [
                rows_between(-1, 1), rows_between(2, 2), rows_between(-2, 2), rows_between(-3, None) & ties(),
                rows_between(3, 3) - own_group(),
            ]:
                formula = sum_of("price", sort, window) + 3 * count_of(sort, window)
                rows = fewest_rows_to_swing(scheme, formula)
                self.check_open(scheme, formula, [sort], rows)
                for count in range(rows):
                    for _ in range(4):
                        table = Table(scheme, random_rows(dice, scheme, count, dice.choice([0, 0, 1])))
                        found = [answers(lay, formula) for lay in all_lays(table)]
                        self.assertEqual(found, [found[0]] * len(found))


class Errors(Checks):
    def test_formulas_that_do_not_fit(self):
        for scheme, formula, error, name in [
            (PARTED, row_number("town") + row_number("best"), UnknownSort, "best"),
            (PARTED, number(3) + total("price", "best") + total("nope", "day"), UnknownSort, "best"),
            (PARTED, total("nope", "day"), UnknownColumn, "nope"),
            (FALLING, count_of("best", every(), barred=["paid"]), UnknownColumn, "paid"),
            (ONE_SORT, own("date", "day"), UnknownColumn, "date"),
        ]:
            for function in [row_sorts, settled, fewest_rows_to_swing, swing]:
                with self.assertRaises(error) as caught:
                    function(scheme, formula)
                self.assertEqual(caught.exception.name, name)


class Again(Checks):
    def test_again_and_told_lists(self):
        formula = row_number("day") + moving("price", "best", 3, 4)
        told = row_sorts(THREE_SORTS, formula)
        told.append("more")
        self.assertEqual(row_sorts(THREE_SORTS, formula), ["day", "best"])
        found, again = swing(THREE_SORTS, formula), swing(THREE_SORTS, formula)
        self.assertTrue(found == again)
        self.assertTrue(found.lay == again.lay and found.other_lay == again.other_lay)
        self.assertEqual((found.sort_name, found.pair, found.row), (again.sort_name, again.pair, again.row))


if __name__ == "__main__":
    unittest.main()
