"""Promises 56, 57 and 58: lays that keep breaks, swings with facts, and the fewest breaks."""

import itertools
import random
import unittest

from formula_models import all_lays, random_formula
from table_samples import (
    FALLING, ONE_SORT, PARTED, SCHEMES, THREE_SORTS, groups_of, random_lay, random_marks, random_rows, sorts_of,
)
from windowrows.answers import answer, answers
from windowrows.breaks import breaks_for, fewest_breaks, keeps_breaks, settled_with, swing_with
from windowrows.errors import BadFix, BadUnique, UnknownColumn, UnknownSort
from windowrows.facts import Facts
from windowrows.formulas import count_of, number, sum_of
from windowrows.lays import Lay, first_lay
from windowrows.named import moving, rank_of, row_number, running, shifted, total
from windowrows.regions import every, groups_between, keys_between, own_group, rows_between, ties
from windowrows.schemes import Scheme, Sort
from windowrows.settled import Swing, fewest_rows_to_swing, row_sorts, settled
from windowrows.tables import Table

WIDE = Scheme(
    [Sort("day", "date", part="shop"), Sort("best", "points", part="town", descending=True), Sort("size", "size")],
    parts=["shop", "town"], values=["price", "cost", "tax"], marks=["paid", "void", "late"],
)
ALL_SCHEMES = [*SCHEMES, WIDE]
FAR = 10 ** 9


def plain_columns(scheme):
    return [column for column in scheme.columns() if column not in scheme.mark_columns]


def random_facts(dice, scheme, most_unique=2):
    """Return facts that fit the scheme."""
    columns = plain_columns(scheme)
    while True:
        unique = [
            dice.sample(columns, dice.randrange(1, min(5, len(columns)) + 1)) for _ in range(dice.randrange(most_unique + 1))
        ]
        fixes = [
            (dice.sample(columns, dice.randrange(1, 3)), dice.choice(scheme.columns())) for _ in range(dice.randrange(6))
        ]
        try:
            return Facts(scheme, unique=unique, fixes=fixes)
        except (BadUnique, BadFix):
            continue


def random_breaks(dice, scheme):
    columns = scheme.columns()
    return {
        name: dice.sample(columns, dice.randrange(min(4, len(columns)))) for name in scheme.sort_names()
        if dice.randrange(3)
    }


def plain_keeps(scheme, rows, orders, breaks):
    """Return whether each two peers stand in the right order."""
    for sort in sorts_of(scheme):
        columns = breaks.get(sort.name, [])
        for group in groups_of(sort, rows):
            for first, second in itertools.permutations(group, 2):
                if orders[sort.name].index(first) < orders[sort.name].index(second):
                    if [rows[first][column] for column in columns] > [rows[second][column] for column in columns]:
                        return False
    return True


def columns_of(scheme, sort, more):
    found = scheme.sort_named(sort)
    return [*([] if found.part is None else [found.part]), found.key, *more]


class Keeping(unittest.TestCase):
    def setUp(self):
        rows = [
            {"shop": 0, "date": 4, "price": price, "paid": paid}
            for price, paid in [(5, 1), (5, 0), (7, 0), (-7, 1)]
        ]
        self.table = Table(PARTED, rows + [{"shop": 0, "date": 5, "price": -9, "paid": 0}])

    def check(self, order, breaks, expected):
        self.assertIs(keeps_breaks(Lay(self.table, {"day": order + [4]}), breaks), expected)

    def test_one_column(self):
        for order in itertools.permutations(range(4)):
            prices = [[5, 5, 7, -7][at] for at in order]
            self.check(list(order), {"day": ["price"]}, prices == sorted(prices))

    def test_no_columns_and_no_sorts(self):
        for order in itertools.permutations(range(4)):
            self.check(list(order), {"day": []}, True)
            self.check(list(order), {}, True)
            self.check(list(order), {"day": ["shop", "date"]}, True)

    def test_several_columns(self):
        for order, breaks, expected in [
            ([3, 1, 0, 2], ["price", "paid"], True), ([3, 0, 1, 2], ["price", "paid"], False),
            ([3, 0, 1, 2], ["price"], True), ([1, 2, 3, 0], ["paid", "price"], True),
            ([1, 2, 0, 3], ["paid", "price"], False), ([2, 1, 0, 3], ["paid"], True), ([2, 1, 3, 0], ["paid"], True),
            ([2, 0, 1, 3], ["paid"], False), ([3, 1, 0, 2], ["date", "price", "shop", "paid"], True),
            ([1, 3, 0, 2], ["date", "price", "shop", "paid"], False), ([3, 1, 0, 2], ["price", "price"], True),
        ]:
            self.check(order, {"day": breaks}, expected)

    def test_ascending_also_in_falling_sorts(self):
        table = Table(FALLING, [{"shop": 1, "points": points, "price": price} for points, price in [(3, 2), (3, 1), (8, 0)]])
        self.assertIs(keeps_breaks(Lay(table, {"best": [2, 1, 0]}), {"best": ["price"]}), True)
        self.assertIs(keeps_breaks(Lay(table, {"best": [2, 0, 1]}), {"best": ["price"]}), False)

    def test_other_parts(self):
        table = Table(PARTED, [{"shop": shop, "date": 1, "price": price, "paid": 0} for shop, price in [(1, 5), (2, 4), (3, 9)]])
        self.assertIs(keeps_breaks(first_lay(table), {"day": ["price"]}), True)

    def test_random_lays(self):
        dice = random.Random(56)
        kept = 0
        for at in range(300):
            scheme = ALL_SCHEMES[at % len(ALL_SCHEMES)]
            lay, rows, orders = random_lay(dice, scheme, dice.randrange(6), dice.choice([0, 1, 2]))
            breaks = random_breaks(dice, scheme)
            expected = plain_keeps(scheme, rows, orders, breaks)
            self.assertIs(keeps_breaks(lay, breaks), expected)
            kept += expected
        self.assertGreater(kept, 60)
        self.assertGreater(300 - kept, 30)

    def test_no_rows(self):
        self.assertIs(keeps_breaks(first_lay(Table(THREE_SORTS, [])), {"day": ["price"], "town": ["late"]}), True)

    def test_unknown_sorts(self):
        lay = first_lay(Table(THREE_SORTS, []))
        for breaks, name in [
            ({"nope": []}, "nope"), ({"nope": [], "gone": ["price"]}, "gone"), ({"day": ["nope"], "date": []}, "date"),
            ({"": [], "day": []}, ""), ({"day": ["price"], "x": ["nope"], "town": ["gone"]}, "x"), ({"Day": []}, "Day"),
        ]:
            with self.assertRaises(UnknownSort) as caught:
                keeps_breaks(lay, breaks)
            self.assertEqual(caught.exception.name, name)

    def test_unknown_columns(self):
        lay = first_lay(Table(THREE_SORTS, []))
        for breaks, name in [
            ({"day": ["nope"]}, "nope"), ({"day": ["price", "gone", "nope"]}, "gone"),
            ({"town": ["town", "a"], "day": ["price", "z"]}, "z"), ({"town": ["a"], "best": ["b", "c"], "day": ["late"]}, "b"),
            ({"town": ["best"], "best": []}, "best"),
        ]:
            with self.assertRaises(UnknownColumn) as caught:
                keeps_breaks(lay, breaks)
            self.assertEqual(caught.exception.name, name)

    def test_breaks_stay(self):
        breaks = {"day": ["price", "late"], "best": []}
        keeps_breaks(first_lay(Table(THREE_SORTS, [])), breaks)
        settled_with(Facts(THREE_SORTS), row_number("day"), breaks)
        swing_with(Facts(THREE_SORTS), row_number("day"), breaks)
        self.assertEqual(breaks, {"day": ["price", "late"], "best": []})


class Checks(unittest.TestCase):
    def check_settled(self, facts, formula, breaks):
        self.assertIs(settled_with(facts, formula, breaks), True)
        self.assertIsNone(swing_with(facts, formula, breaks))

    def check_open(self, facts, formula, breaks, names, rows):
        """Check a swing by one of the sorts in names, with this number of rows."""
        self.assertIs(settled_with(facts, formula, breaks), False)
        found = swing_with(facts, formula, breaks)
        self.assertIsInstance(found, Swing)
        self.assertIsInstance(found.lay, Lay)
        self.assertTrue(found.lay.table.scheme == facts.scheme)
        self.assertEqual(len(found.lay.table), rows)
        self.assertIs(facts.kept_by(found.lay.table), True)
        self.assertIs(keeps_breaks(found.lay, breaks), True)
        self.assertIs(keeps_breaks(found.other_lay, breaks), True)
        self.assertIn(found.sort_name, names)
        self.assertIs(type(found.pair), tuple)
        first, second = found.pair
        self.assertTrue(found.other_lay == found.lay.exchanged(found.sort_name, first, second))
        self.assertIn(found.row, range(rows))
        self.assertEqual(found.first_answer, answer(found.lay, formula, found.row))
        self.assertEqual(found.second_answer, answer(found.other_lay, formula, found.row))
        self.assertNotEqual(found.first_answer, found.second_answer)


class SettledWith(Checks):
    def test_breaks_settle(self):
        facts = Facts(PARTED, unique=[["shop", "date", "price"]])
        formula = row_number("day")
        self.check_settled(facts, formula, {"day": ["price"]})
        self.check_settled(facts, formula, {"day": ["paid", "price"]})
        self.check_open(facts, formula, {}, ["day"], 2)
        self.check_open(facts, formula, {"day": []}, ["day"], 2)
        self.check_open(facts, formula, {"day": ["paid"]}, ["day"], 2)
        self.check_open(facts, formula, {"day": ["shop", "date"]}, ["day"], 2)
        self.check_open(Facts(PARTED), formula, {"day": ["price", "paid"]}, ["day"], 2)
        self.check_settled(facts, rank_of("day") + total("price", "day"), {})
        self.check_settled(Facts(PARTED), rank_of("day"), {"day": ["paid"]})

    def test_facts_alone_settle(self):
        for unique, fixes, is_settled in [
            ([["shop", "date"]], [], True), ([["date"]], [], True), ([["price"]], [], False),
            ([["price"]], [(["date"], "price")], True), ([["price"]], [(["date", "shop"], "price")], True),
            ([["price", "shop"]], [(["date"], "price")], True), ([["price"]], [(["price"], "date")], False),
            ([["price"], ["date", "shop"]], [], True), ([["price"], ["price", "shop"]], [], False),
        ]:
            facts = Facts(PARTED, unique=unique, fixes=fixes)
            for formula in [row_number("day"), moving("price", "day", 12, 12), sum_of("price", "day", ties() & rows_between(0, 9))]:
                if is_settled:
                    self.check_settled(facts, formula, {})
                else:
                    self.check_open(facts, formula, {}, ["day"], fewest_rows_to_swing(PARTED, formula))

    def test_breaks_lead_on_by_fixes(self):
        fixes = [(["price"], "cost"), (["cost", "date"], "tax"), (["tax"], "town")]
        facts = Facts(WIDE, unique=[["town", "tax"]], fixes=fixes)
        formula = running("price", "day")
        self.check_settled(facts, formula, {"day": ["price"]})
        self.check_settled(facts, formula, {"day": ["cost"]})
        self.check_settled(facts, formula, {"day": ["tax"]})
        self.check_open(facts, formula, {"day": ["town"]}, ["day"], 2)
        self.check_open(facts, formula, {"best": ["price"]}, ["day"], 2)

    def test_several_sorts_of_which_one_fails(self):
        facts = Facts(WIDE, unique=[["shop", "date", "price"], ["size", "cost"]])
        formula = moving("price", "day", 2, 2) + shifted("cost", "size", 6) + total("tax", "best")
        self.check_settled(facts, formula, {"day": ["price"], "size": ["cost"]})
        self.check_open(facts, formula, {"day": ["price"]}, ["size"], 7)
        self.check_open(facts, formula, {"size": ["cost"]}, ["day"], 4)
        self.check_open(facts, formula, {"size": ["cost", "late"], "best": ["tax"]}, ["day"], 4)
        self.check_open(facts, formula, {}, ["day"], 4)
        more = formula + row_number("best")
        self.check_open(facts, more, {"day": ["price"], "size": ["cost"]}, ["best"], 2)
        self.check_open(facts, more, {"day": ["price"], "best": ["price", "cost", "tax"]}, ["best"], 2)

    def test_twelve_rows_away(self):
        facts = Facts(
            WIDE, unique=[["price", "size"], ["cost", "date", "shop"]],
            fixes=[(["date"], "town"), (["points"], "late"), (["town", "tax"], "price"), (["price"], "paid"), (["tax"], "void")],
        )
        for window, rows in [
            (rows_between(12, None), 13), (rows_between(-12, -12), 13), (rows_between(-12, 12), 14),
            (rows_between(12, 12) & own_group(), 13), (rows_between(-12, -12) & groups_between(-11, -11), 13),
            (rows_between(12, 12) & groups_between(2, 3) & keys_between(FAR, None), 13),
            (rows_between(None, -12) & keys_between(-FAR, -FAR), 13), (rows_between(-1, 1), 3), (rows_between(3, 5), 4),
        ]:
            for sort, breaks in [
                ("day", {}), ("day", {"day": ["town"], "size": ["price", "late"]}), ("best", {"best": ["tax"]}),
                ("size", {"size": ["tax", "date", "points"], "best": ["cost"], "day": ["price", "cost"]}),
            ]:
                for wanted, barred in [([], []), (["paid"], []), ([], ["late"]), (["void"], ["paid", "late"])]:
                    for formula in [
                        count_of(sort, window, wanted=wanted, barred=barred),
                        sum_of("price", sort, window, wanted=wanted, barred=barred),
                        sum_of("cost", sort, window, wanted=wanted, barred=barred)
                        - 3 * count_of(sort, window, wanted=wanted, barred=barred),
                    ]:
                        if not facts.no_twins(*columns_of(WIDE, sort, breaks.get(sort, []))):
                            self.check_open(facts, formula, breaks, [sort], rows)
                        else:
                            self.check_settled(facts, formula, breaks)

    def test_values_that_facts_make_equal(self):
        # The rows of a group agree on the value, and a value of its own may be needed to show the difference.
        facts = Facts(ONE_SORT, fixes=[(["date"], "price")])
        for constant in range(-15, 16):
            for window, rows in [(rows_between(None, -2), 3), (rows_between(2, 2) & own_group(), 3), (rows_between(-9, 3), 5)]:
                formula = sum_of("price", "day", window) + constant * count_of("day", window)
                self.check_open(facts, formula, {}, ["day"], rows)
                self.check_open(Facts(ONE_SORT), formula, {"day": ["price"]}, ["day"], rows)

    def test_values_beside_those_of_marked_rows(self):
        # Without marks the count and the sum of one column may make up for each other.
        for fixes in [[], [(["date"], "cost")], [(["date"], "price"), (["date"], "cost"), (["price"], "paid")]]:
            facts = Facts(THREE_SORTS, fixes=fixes)
            for constant in range(-6, 7):
                for column, other in [("cost", "price"), ("price", "cost")]:
                    window = rows_between(2, 2)
                    formula = sum_of(column, "day", window) + constant * count_of("day", window)
                    self.check_open(facts, formula, {}, ["day"], 3)
                    self.check_open(facts, formula + sum_of(other, "day", window, wanted=["paid"]), {}, ["day"], 3)
                    self.check_open(facts, formula - sum_of(other, "day", window, wanted=["void", "late"]), {}, ["day"], 3)

    def test_random_facts(self):
        dice = random.Random(57)
        seen = set()
        for at in range(400):
            scheme = ALL_SCHEMES[at % len(ALL_SCHEMES)]
            facts, breaks = random_facts(dice, scheme), random_breaks(dice, scheme)
            formula = random_formula(dice, scheme, 4)[0]
            names = [
                sort for sort in row_sorts(scheme, formula)
                if not facts.no_twins(*columns_of(scheme, sort, breaks.get(sort, [])))
            ]
            rows = min([fewest_rows_to_swing(scheme, formula_part(formula, sort)) for sort in names], default=None)
            seen.add((bool(names), settled(scheme, formula)))
            if names:
                self.check_open(facts, formula, breaks, names, rows)
            else:
                self.check_settled(facts, formula, breaks)
        self.assertEqual(seen, {(True, False), (False, True), (False, False)})

    def test_far_formulas_with_random_facts(self):
        dice = random.Random(58)
        for at in range(200):
            scheme = ALL_SCHEMES[at % len(ALL_SCHEMES)]
            facts, breaks = random_facts(dice, scheme), random_breaks(dice, scheme)
            sort = dice.choice(scheme.sort_names())
            end = dice.choice([-12, -9, -2, 2, 5, 12])
            window = (rows_between(None, end) if end < 0 else rows_between(end, None)) & dice.choice([
                every(), own_group(), ~own_group(), keys_between(-9, 5) | keys_between(FAR, None),
                groups_between(-3, -2) | groups_between(1, 2),
            ])
            wanted, barred = random_marks(dice, scheme)
            column = dice.choice(["", *scheme.value_columns])
            formula = number(4) - (
                count_of(sort, window, wanted=wanted, barred=barred) if column == ""
                else sum_of(column, sort, window, wanted=wanted, barred=barred)
            )
            if facts.no_twins(*columns_of(scheme, sort, breaks.get(sort, []))):
                self.check_settled(facts, formula, breaks)
            elif not settled(scheme, formula):
                self.check_open(facts, formula, breaks, [sort], fewest_rows_to_swing(scheme, formula))

    def test_settled_in_all_lays_that_keep_the_breaks(self):
        dice = random.Random(59)
        facts = Facts(PARTED, unique=[["shop", "price", "date"]], fixes=[(["price"], "paid")])
        formula = running("price", "day") + shifted("price", "day", -1) + row_number("day")
        self.check_settled(facts, formula, {"day": ["price"]})
        tables = 0
        while tables < 15:
            table = Table(PARTED, random_rows(dice, PARTED, 4, 0))
            if facts.kept_by(table):
                tables += 1
                found = [answers(lay, formula) for lay in all_lays(table) if keeps_breaks(lay, {"day": ["price"]})]
                self.assertTrue(found)
                self.assertEqual(found, [found[0]] * len(found))


def formula_part(formula, sort):
    """Return the formula without the terms of other sorts."""
    total_part = number(0)
    for term in formula.terms():
        if term.sort_name == sort:
            one = (
                count_of(sort, term.window, wanted=term.wanted, barred=term.barred) if term.column == ""
                else sum_of(term.column, sort, term.window, wanted=term.wanted, barred=term.barred)
            )
            total_part = total_part + term.factor * one
    return total_part


class Errors(Checks):
    def test_formulas_ahead_of_breaks(self):
        facts = Facts(PARTED)
        bad_sort = row_number("town") + row_number("best") + total("nope", "day")
        bad_column = total("nope", "day") + count_of("day", every(), wanted=["gone"])
        for function in [settled_with, swing_with]:
            for breaks in [{}, {"nope": []}, {"day": ["nope"]}, {"day": ["price"]}]:
                with self.assertRaises(UnknownSort) as caught:
                    function(facts, bad_sort, breaks)
                self.assertEqual(caught.exception.name, "best")
                with self.assertRaises(UnknownColumn) as caught:
                    function(facts, bad_column, breaks)
                self.assertEqual(caught.exception.name, "gone")
        with self.assertRaises(UnknownSort) as caught:
            breaks_for(facts, bad_sort)
        self.assertEqual(caught.exception.name, "best")
        with self.assertRaises(UnknownColumn) as caught:
            breaks_for(facts, bad_column)
        self.assertEqual(caught.exception.name, "gone")

    def test_bad_breaks(self):
        for function in [settled_with, swing_with]:
            for formula in [rank_of("day"), row_number("day"), number(1)]:
                for breaks, error, name in [
                    ({"nope": [], "gone": ["x"]}, UnknownSort, "gone"), ({"day": ["x"], "nope": []}, UnknownSort, "nope"),
                    ({"town": ["a"], "day": ["price", "b", "a"]}, UnknownColumn, "b"),
                ]:
                    with self.assertRaises(error) as caught:
                        function(Facts(THREE_SORTS), formula, breaks)
                    self.assertEqual(caught.exception.name, name)

    def test_unknown_sort(self):
        for facts in [Facts(PARTED), Facts(PARTED, unique=[["date"]])]:
            for name in ["best", "", "date"]:
                with self.assertRaises(UnknownSort) as caught:
                    fewest_breaks(facts, name)
                self.assertEqual(caught.exception.name, name)


def plain_fewest(facts, sort):
    """Return the first of the shortest lists, by trying all."""
    scheme = facts.scheme
    for size in range(len(scheme.columns()) + 1):
        for chosen in itertools.combinations(scheme.columns(), size):
            if facts.no_twins(*columns_of(scheme, sort, chosen)):
                return list(chosen)
    return None


class Fewest(Checks):
    def test_written_out(self):
        for unique, fixes, sort, expected in [
            ([], [], "day", None), ([], [(["date"], "price")], "day", None), ([["date"]], [], "day", []),
            ([["date", "shop"]], [], "day", []), ([["date", "town"]], [], "day", ["town"]),
            ([["price", "cost"]], [], "day", ["price", "cost"]), ([["cost", "price"]], [], "best", ["price", "cost"]),
            ([["price", "cost"], ["tax"]], [], "day", ["tax"]), ([["tax"], ["price"]], [], "size", ["price"]),
            ([["price", "cost"]], [(["tax"], "price"), (["tax"], "cost")], "day", ["tax"]),
            ([["price", "tax"], ["size", "cost"]], [], "day", ["size", "cost"]),
            ([["price", "tax"], ["size", "cost"]], [], "size", ["cost"]),
            ([["price", "tax"], ["cost", "points"]], [], "size", ["points", "cost"]),
            ([["price"]], [(["tax"], "price"), (["cost"], "tax")], "size", ["price"]),
            ([["price"]], [(["size", "cost"], "price")], "size", ["price"]),
            ([["tax"]], [(["points"], "price"), (["price"], "tax")], "size", ["points"]),
            ([["shop", "town", "date", "points", "size", "price"]], [], "size", ["shop", "town", "date", "points", "price"]),
            ([["date", "points", "size", "price", "cost", "tax"]], [], "day", ["points", "size", "price", "cost", "tax"]),
        ]:
            facts = Facts(WIDE, unique=unique, fixes=fixes)
            self.assertEqual(fewest_breaks(facts, sort), expected)
            self.assertEqual(plain_fewest(facts, sort), expected)

    def test_random_facts(self):
        dice = random.Random(58)
        sizes = set()
        for at in range(100):
            scheme = ALL_SCHEMES[at % len(ALL_SCHEMES)]
            facts = random_facts(dice, scheme)
            for sort in scheme.sort_names():
                found = fewest_breaks(facts, sort)
                self.assertEqual(found, plain_fewest(facts, sort))
                sizes.add(None if found is None else len(found))
        self.assertLessEqual({None, 0, 1, 2}, sizes)

    def test_lists_of_more_than_four_columns(self):
        facts = Facts(WIDE, unique=[["shop", "town", "date", "points", "size", "price", "cost"]])
        for formula in [row_number("day"), moving("price", "size", 2, 2) + running("tax", "best")]:
            breaks = breaks_for(facts, formula)
            self.assertEqual({sort: len(breaks[sort]) for sort in breaks}, {
                sort: 6 if sort == "size" else 5 for sort in row_sorts(WIDE, formula)
            })
            self.check_settled(facts, formula, breaks)
            self.assertIs(keeps_breaks(first_lay(Table(WIDE, [])), breaks), True)
            for sort in breaks:
                shorter = {**breaks, sort: breaks[sort][1:]}
                self.check_open(facts, formula, shorter, [sort], fewest_rows_to_swing(WIDE, formula_part(formula, sort)))

    def test_breaks_for(self):
        facts = Facts(WIDE, unique=[["price", "shop", "date"], ["size", "cost"]])
        near = row_number("day") + moving("cost", "size", 1, 0)
        for formula, expected in [
            (number(3), {}), (rank_of("day") + total("price", "best"), {}), (row_number("day"), {"day": ["price"]}),
            (near, {"day": ["price"], "size": ["cost"]}), (near + row_number("best"), None),
        ]:
            found = breaks_for(facts, formula)
            if expected is None:
                self.assertEqual(found["best"], fewest_breaks(facts, "best"))
                self.assertEqual(list(sorted(found)), ["best", "day", "size"])
            else:
                self.assertEqual(found, expected)
                self.assertIs(type(found), dict)
            self.check_settled(facts, formula, found)

    def test_breaks_for_without_unique_sets(self):
        facts = Facts(WIDE, fixes=[(["date"], "price")])
        self.assertIsNone(breaks_for(facts, row_number("day")))
        self.assertIsNone(breaks_for(facts, row_number("size") + rank_of("day")))
        self.assertEqual(breaks_for(facts, rank_of("day") + total("cost", "size")), {})
        self.assertIsNone(fewest_breaks(facts, "day"))

    def test_new_each_time(self):
        facts = Facts(WIDE, unique=[["price", "shop", "date"], ["size", "cost"]])
        formula = row_number("day") + row_number("size")
        told = breaks_for(facts, formula)
        told["day"].append("late")
        told["best"] = []
        self.assertEqual(breaks_for(facts, formula), {"day": ["price"], "size": ["cost"]})
        listed = fewest_breaks(facts, "day")
        listed.append("late")
        self.assertEqual(fewest_breaks(facts, "day"), ["price"])
        first, second = [swing_with(facts, formula, {}) for _ in range(2)]
        self.assertTrue(first == second)
        self.assertTrue(first.lay == second.lay)


if __name__ == "__main__":
    unittest.main()
