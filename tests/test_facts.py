"""Promises 54 and 55: facts, closures, chains and twins; promise 2 for them."""

import itertools
import random
import unittest

from table_samples import ONE_SORT, PARTED, SCHEMES, THREE_SORTS, random_rows
from windowrows.errors import BadFix, BadUnique, OtherScheme, UnknownColumn
from windowrows.facts import Facts
from windowrows.schemes import Scheme, Sort
from windowrows.tables import Table

COLUMNS = ["shop", "town", "date", "points", "size", "price", "cost", "paid", "void", "late"]
PLAIN_COLUMNS = COLUMNS[:7]


def plain_closure(fixes, columns):
    """Return the closure by adding columns until nothing changes."""
    found = set(columns)
    while True:
        more = {column for needed, column in fixes if set(needed) <= found} | found
        if more == found:
            return [column for column in COLUMNS if column in found]
        found = more


def random_facts(dice):
    """Return (facts, unique sets, fixes) that fit THREE_SORTS."""
    while True:
        unique = [dice.sample(PLAIN_COLUMNS, dice.randrange(1, 4)) for _ in range(dice.randrange(3))]
        fixes = [
            (dice.sample(PLAIN_COLUMNS, dice.randrange(1, 4)), dice.choice(COLUMNS)) for _ in range(dice.randrange(6))
        ]
        if all(set(columns) - {"shop", "town"} for columns in unique + [columns for columns, _ in fixes]):
            return Facts(THREE_SORTS, unique=unique, fixes=fixes), unique, fixes


class Making(unittest.TestCase):
    def fails(self, error, scheme, unique=(), fixes=()):
        with self.assertRaises(error) as caught:
            Facts(scheme, unique=unique, fixes=fixes)
        self.assertIs(type(caught.exception), error)
        return caught.exception

    def test_no_facts(self):
        for scheme in SCHEMES:
            facts = Facts(scheme)
            self.assertTrue(facts.scheme == scheme)
            self.assertEqual(facts.closure(*scheme.columns()[:2]), scheme.columns()[:2])
            self.assertEqual(facts.chain(*scheme.columns()), [])
            self.assertIs(facts.no_twins(*scheme.columns()), False)
            self.assertTrue(facts.kept_by(Table(scheme, [dict.fromkeys(scheme.columns(), 0)] * 3)))

    def test_good_facts(self):
        for unique in [["date"], ["price"], ["shop", "date"], ["points", "town", "shop"], PLAIN_COLUMNS]:
            self.assertTrue(Facts(THREE_SORTS, unique=[unique]).no_twins(*unique))
            for column in COLUMNS:
                facts = Facts(THREE_SORTS, fixes=[(unique, column)])
                self.assertIn(column, facts.closure(*unique))
        self.assertTrue(Facts(THREE_SORTS, unique=(("date",), ("cost", "shop"))).no_twins("shop", "cost"))

    def test_unknown_columns(self):
        for unique, fixes, name in [
            ([["nope"]], [], "nope"), ([["date", "gone", "nope"]], [], "gone"), ([["date"], ["day"]], [], "day"),
            ([["nope", "paid"]], [], "nope"), ([["paid", "nope"]], [], "nope"), ([["shop", "nope"]], [], "nope"),
            ([], [(["nope"], "gone")], "nope"), ([], [(["date"], "gone")], "gone"), ([], [(["paid"], "gone")], "gone"),
            ([], [([], "gone")], "gone"), ([], [(["shop"], "gone")], "gone"),
            ([["date"]], [(["date"], "price"), (["date", "Date"], "paid")], "Date"),
            ([["date"], ["nope"]], [(["gone"], "date")], "nope"),
        ]:
            self.assertEqual(self.fails(UnknownColumn, THREE_SORTS, unique, fixes).name, name)
        self.assertEqual(self.fails(UnknownColumn, ONE_SORT, [["date", "shop"]]).name, "shop")

    def test_bad_unique_sets(self):
        for unique, index in [
            ([["paid"]], 0), ([["date", "paid"]], 0), ([["shop"]], 0), ([["shop", "town"]], 0), ([[]], 0),
            ([["date"], ["late", "price"]], 1), ([["date"], []], 1), ([["town"], ["nope"]], 0), ([["void"], []], 0),
        ]:
            self.assertEqual(self.fails(BadUnique, THREE_SORTS, unique).index, index)
            self.assertEqual(self.fails(BadUnique, THREE_SORTS, unique, [(["paid"], "nope")]).index, index)

    def test_bad_fixes(self):
        for fixes, index in [
            ([(["paid"], "date")], 0), ([(["date", "paid"], "price")], 0), ([(["shop"], "date")], 0), ([([], "date")], 0),
            ([(["town", "shop"], "paid")], 0), ([(["date"], "paid"), (["late", "price"], "cost")], 1),
            ([(["date"], "paid"), (["date"], "void"), (["size"], "cost"), (["cost"], "size"), (["shop"], "town")], 4),
            ([(["shop"], "town"), (["nope"], "date")], 0),
        ]:
            self.assertEqual(self.fails(BadFix, THREE_SORTS, [], fixes).index, index)
            self.assertEqual(self.fails(BadFix, THREE_SORTS, [["date"], ["cost", "shop"]], fixes).index, index)

    def test_unique_sets_come_ahead_of_fixes(self):
        self.assertEqual(self.fails(BadUnique, THREE_SORTS, [["date"], ["shop"]], [(["paid"], "date")]).index, 1)
        self.assertEqual(self.fails(UnknownColumn, THREE_SORTS, [["date"], ["gone"]], [(["nope"], "date")]).name, "gone")
        self.assertEqual(self.fails(BadFix, THREE_SORTS, [["date"]], [(["paid"], "date"), (["nope"], "date")]).index, 0)

    def test_marks_on_the_right(self):
        facts = Facts(THREE_SORTS, fixes=[(["date"], "paid"), (["date", "price"], "late")])
        self.assertEqual(facts.closure("date"), ["date", "paid"])
        self.assertEqual(facts.closure("price", "date"), ["date", "price", "paid", "late"])


class Closures(unittest.TestCase):
    def check(self, facts, unique, fixes, columns):
        expected = plain_closure(fixes, columns)
        found = facts.closure(*columns)
        self.assertEqual(found, expected)
        self.assertIs(type(found), list)
        chain = facts.chain(*columns)
        self.assertIs(type(chain), list)
        known = set(columns)
        for index in chain:
            needed, column = fixes[index]
            self.assertLessEqual(set(needed), known)
            self.assertNotIn(column, known)
            known.add(column)
        self.assertEqual(known, set(expected))
        self.assertEqual(len(set(chain)), len(chain))
        self.assertIs(facts.no_twins(*columns), any(set(one) <= set(expected) for one in unique))

    def test_random_facts(self):
        dice = random.Random(55)
        for _ in range(150):
            facts, unique, fixes = random_facts(dice)
            self.check(facts, unique, fixes, [])
            self.check(facts, unique, fixes, COLUMNS)
            for _ in range(8):
                self.check(facts, unique, fixes, dice.sample(COLUMNS, dice.randrange(5)))

    def test_fixes_that_lean_on_each_other(self):
        fixes = [
            (["price", "cost"], "late"), (["size"], "price"), (["points"], "size"), (["date"], "points"), (["size"], "cost"),
        ]
        facts = Facts(THREE_SORTS, fixes=fixes)
        self.assertEqual(facts.closure("date"), ["date", "points", "size", "price", "cost", "late"])
        for columns in [["date"], ["size"], ["price"], ["cost", "price"], ["late"], ["date", "price"], ["size", "late"]]:
            self.check(facts, [], fixes, columns)

    def test_circles(self):
        fixes = [(["date"], "price"), (["price"], "cost"), (["cost"], "date"), (["cost", "shop"], "town"), (["town", "size"], "shop")]
        facts = Facts(THREE_SORTS, unique=[["town", "cost"]], fixes=fixes)
        for columns in itertools.chain(*[itertools.combinations(PLAIN_COLUMNS, size) for size in range(4)]):
            self.check(facts, [["town", "cost"]], fixes, columns)
        self.assertEqual(facts.closure("cost"), ["date", "price", "cost"])
        self.assertEqual(len(facts.chain("cost")), 2)

    def test_fixes_for_the_same_column(self):
        fixes = [(["date"], "cost"), (["price"], "cost"), (["date"], "date"), (["date"], "cost")]
        facts = Facts(THREE_SORTS, fixes=fixes)
        self.assertIn(facts.chain("date", "price"), [[0], [1], [3]])
        self.assertIn(facts.chain("date"), [[0], [3]])
        self.assertEqual(facts.chain("price"), [1])
        self.assertEqual(facts.chain("cost", "date", "price"), [])
        self.assertEqual(facts.chain(), [])
        self.assertEqual(facts.closure(), [])

    def test_columns_in_any_order_and_twice(self):
        facts = Facts(THREE_SORTS, fixes=[(["cost", "date"], "shop")])
        self.assertEqual(facts.closure("cost", "date"), ["shop", "date", "cost"])
        self.assertEqual(facts.closure("date", "cost", "date"), ["shop", "date", "cost"])
        self.assertEqual(facts.closure("late", "cost"), ["cost", "late"])

    def test_no_twins(self):
        facts = Facts(THREE_SORTS, unique=[["date", "shop"]], fixes=[(["price"], "date"), (["cost"], "shop")])
        for columns, expected in [
            ([], False), (["date"], False), (["shop"], False), (["date", "shop"], True), (["price", "shop"], True),
            (["price", "cost"], True), (["cost", "date", "late"], True), (["cost", "size"], False), (COLUMNS, True),
        ]:
            self.assertIs(facts.no_twins(*columns), expected)
        facts = Facts(THREE_SORTS, unique=[["date", "shop"], ["size"]])
        for columns, expected in [
            (["size"], True), (["date", "shop"], True), (["date", "points"], False), (["date", "size"], True), ([], False),
        ]:
            self.assertIs(facts.no_twins(*columns), expected)

    def test_unknown_columns(self):
        facts = Facts(THREE_SORTS, unique=[["date"]], fixes=[(["date"], "price")])
        for columns, name in [
            (["nope"], "nope"), (["date", "gone", "nope"], "gone"), (["nope", "gone"], "nope"), (["day"], "day"),
            (["price", ""], ""), (["late", "date", "price", "Date"], "Date"),
        ]:
            for method in [facts.closure, facts.chain, facts.no_twins]:
                with self.assertRaises(UnknownColumn) as caught:
                    method(*columns)
                self.assertEqual(caught.exception.name, name)


class KeptBy(unittest.TestCase):
    def test_small_tables(self):
        facts = Facts(PARTED, unique=[["shop", "date"]], fixes=[(["date"], "paid"), (["price", "shop"], "date")])
        row = {"shop": 1, "date": 1, "price": 1, "paid": 1}
        for others, expected in [
            ([], True), ([{**row, "date": 2, "price": 5}], True), ([row], False), ([{**row, "price": 2}], False),
            ([{**row, "shop": 2}], True), ([{**row, "shop": 2, "paid": 0}], False),
            ([{**row, "date": 2}], False), ([{**row, "date": 2, "paid": 0, "shop": 3}], True),
            ([{**row, "date": 3, "price": 4}, {**row, "date": 2, "price": 4}], False),
        ]:
            self.assertIs(facts.kept_by(Table(PARTED, [row, *others])), expected)
            self.assertIs(facts.kept_by(Table(PARTED, [*others, row])), expected)
        self.assertIs(facts.kept_by(Table(PARTED, [])), True)

    def test_tables_that_two_rows_break(self):
        dice = random.Random(56)
        for _ in range(150):
            facts, unique, fixes = random_facts(dice)
            rows = random_rows(dice, THREE_SORTS, dice.randrange(8), dice.choice([1, 3, 30]))
            expected = True
            for first, second in itertools.combinations(rows, 2):
                agreed = {column for column in COLUMNS if first[column] == second[column]}
                if any(set(one) <= agreed for one in unique):
                    expected = False
                if any(set(needed) <= agreed and column not in agreed for needed, column in fixes):
                    expected = False
            self.assertIs(facts.kept_by(Table(THREE_SORTS, rows)), expected)

    def test_no_rows_and_one(self):
        dice = random.Random(57)
        for _ in range(30):
            facts, _, _ = random_facts(dice)
            self.assertIs(facts.kept_by(Table(THREE_SORTS, [])), True)
            self.assertIs(facts.kept_by(Table(THREE_SORTS, random_rows(dice, THREE_SORTS, 1))), True)

    def test_other_schemes(self):
        facts = Facts(PARTED, unique=[["date"]])
        for scheme in [
            ONE_SORT, THREE_SORTS, Scheme([Sort("day", "date")], parts=["shop"], values=["price"], marks=["paid"]),
            Scheme([Sort("day", "date", part="shop", descending=True)], parts=["shop"], values=["price"], marks=["paid"]),
        ]:
            for rows in [[], [dict.fromkeys(scheme.columns(), 1)] * 2]:
                with self.assertRaises(OtherScheme):
                    facts.kept_by(Table(scheme, rows))
        equal = Scheme([Sort("day", "date", part="shop")], parts=("shop",), values=("price",), marks=("paid",))
        self.assertIs(facts.kept_by(Table(equal, [dict.fromkeys(equal.columns(), 1)] * 2)), False)


class Copies(unittest.TestCase):
    def test_handed_lists(self):
        unique = [["date"], ["price", "shop"]]
        needed = ["date"]
        fixes = [(needed, "price"), (["price"], "cost")]
        facts = Facts(THREE_SORTS, unique=unique, fixes=fixes)
        unique[0].append("size")
        unique.append(["cost"])
        needed.append("size")
        fixes.pop()
        self.assertEqual(facts.closure("date"), ["date", "price", "cost"])
        self.assertIs(facts.no_twins("date"), True)
        self.assertIs(facts.no_twins("cost"), False)
        self.assertEqual(facts.chain("date"), [0, 1])

    def test_told_lists(self):
        facts = Facts(THREE_SORTS, fixes=[(["date"], "price"), (["price"], "cost")])
        for method in [facts.closure, facts.chain]:
            told = method("date")
            kept = list(told)
            told.append("late")
            told[0] = None
            self.assertEqual(method("date"), kept)

    def test_arguments_stay(self):
        unique, fixes = [["date", "shop"]], [(["date"], "price")]
        Facts(THREE_SORTS, unique=unique, fixes=fixes).closure("date")
        self.assertEqual((unique, fixes), ([["date", "shop"]], [(["date"], "price")]))


if __name__ == "__main__":
    unittest.main()
