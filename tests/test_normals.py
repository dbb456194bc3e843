"""Promises 46, 47 and 50: components, normal forms, and formulas of them; promise 2 for them."""

import random
import unittest

from formula_models import (
    components_of, one_term, plain_others, plain_own, plain_turn_by_sort, plain_turns, random_formula, rewritten,
)
from samples import OFFSETS, model_of
from table_samples import ONE_SORT, PARTED, SCHEMES, THREE_SORTS, random_lay
from windowrows.answers import answers
from windowrows.errors import OtherScheme, UnknownColumn, UnknownSort
from windowrows.formulas import Formula, count_of, number, sum_of
from windowrows.named import own, part_count, peer_count, rank_of, row_number, running, total
from windowrows.normals import Normal, formula_of, normal_of
from windowrows.offsets import Offset
from windowrows.regions import (
    every, groups_between, keys_between, nothing, own_group, own_row, rows_between, ties, weights_of,
)
from windowrows.schemes import Scheme, Sort
from windowrows.weights import Weights

# Two sorts with the same part beside one without a part, and three without one.
SHARED = Scheme(
    [
        Sort("day", "date", part="shop"), Sort("best", "points", part="shop", descending=True), Sort("rest", "size"),
    ],
    parts=["town", "shop"], values=["price", "cost"], marks=["paid", "void", "late"],
)
BARE = Scheme([Sort("day", "date"), Sort("best", "points"), Sort("town", "size")], values=["price"], marks=["paid"])
ALL_SCHEMES = [*SCHEMES, SHARED, BARE]
NO_WEIGHT = weights_of(nothing(), 1)


class Entries(unittest.TestCase):
    def check(self, scheme, formula, constant, terms):
        normal = normal_of(scheme, formula)
        self.assertIsInstance(normal, Normal)
        shown = []
        for component in components_of(scheme):
            marks, column = component
            own_worth = plain_own(scheme, constant, terms, component)
            self.assertEqual(normal.own(marks, column), own_worth)
            self.assertIs(type(normal.own(marks, column)), int)
            others = [plain_others(scheme, terms, part, component) for part in [None, *scheme.part_columns]]
            self.assertEqual(
                [normal.others(part, marks, column) for part in [None, *scheme.part_columns]], others,
            )
            turns = [normal.turns(sort, marks, column) for sort in scheme.sort_names()]
            for sort, weights in zip(scheme.sort_names(), turns):
                self.assertIsInstance(weights, Weights)
                self.assertEqual(model_of(weights), plain_turns(terms, sort, component))
            if own_worth != 0 or any(others) or any(turns):
                shown.append(component)
        self.assertEqual(normal.components(), shown)
        self.assertIs(bool(normal), bool(shown))

    def test_by_definition(self):
        dice = random.Random(47)
        for at in range(60):
            scheme = ALL_SCHEMES[at % len(ALL_SCHEMES)]
            formula, constant, terms = random_formula(dice, scheme, 6)
            self.check(scheme, formula, constant, terms)

    def test_barred_marks_are_multiplied_out(self):
        for wanted, barred in [
            ([], ["paid"]), (["paid"], ["void"]), ([], ["paid", "void"]), (["late"], ["paid", "void"]),
            ([], ["late", "paid", "void"]), (["paid", "void"], ["late"]),
        ]:
            for column in ["", "cost"]:
                for sort in ["day", "best", "town"]:
                    terms = [(3, column, sort, 1, wanted, barred)]
                    formula = 3 * one_term(column, sort, rows_between(-2, 1), wanted, barred)
                    self.check(THREE_SORTS, formula, 0, terms)

    def test_three_barred_marks_written_out(self):
        normal = normal_of(THREE_SORTS, 2 * count_of("best", own_row(), barred=["void", "paid", "late"]))
        signs = {
            (): 2, ("late",): -2, ("paid",): -2, ("void",): -2, ("late", "paid"): 2, ("late", "void"): 2,
            ("paid", "void"): 2, ("late", "paid", "void"): -2,
        }
        self.assertEqual({marks: normal.own(marks, "") for marks in signs}, signs)
        self.assertEqual(normal.components(), sorted((marks, "") for marks in signs))

    def test_constant_is_a_weight_of_self(self):
        normal = normal_of(PARTED, number(7))
        self.assertEqual(normal.own((), ""), 7)
        self.assertEqual(normal.components(), [((), "")])
        self.assertTrue(normal == normal_of(PARTED, 7 * count_of("day", own_row())))
        self.assertEqual(normal_of(PARTED, 3 - 3 * count_of("day", own_row())).components(), [])
        self.assertEqual(normal_of(PARTED, own("price", "day") + 2).own((), ""), 2)

    def test_parts(self):
        formula = total("price", "day") + 2 * total("price", "best") + 4 * total("price", "rest")
        normal = normal_of(SHARED, formula)
        self.assertEqual(normal.others("shop", (), "price"), 3)
        self.assertEqual(normal.others(None, (), "price"), 4)
        self.assertEqual(normal.others("town", (), "price"), 0)
        self.assertEqual(normal.own((), "price"), 7)
        self.assertFalse(any(normal.turns(sort, (), "price") for sort in SHARED.sort_names()))
        away = normal_of(SHARED, formula - 3 * total("price", "best") - total("price", "rest") * 4)
        self.assertEqual(away.components(), [])
        self.assertIs(bool(away), False)

    def test_turns(self):
        normal = normal_of(ONE_SORT, row_number("day"))
        turns = normal.turns("day", (), "")
        self.assertEqual(turns.at(Offset(-4, -2, -9)), 1)
        self.assertEqual(turns.at(Offset(-1, 0, 0)), 1)
        self.assertEqual(turns.at(Offset(0, 0, 0)), 0)
        self.assertEqual(turns.at(Offset(1, 0, 0)), 0)
        self.assertEqual(turns.at(Offset(1, 1, 1)), 0)
        self.assertEqual((normal.own((), ""), normal.others(None, (), "")), (1, 0))
        normal = normal_of(ONE_SORT, running("price", "day") - 5 * total("price", "day"))
        self.assertEqual(normal.others(None, (), "price"), -5)
        self.assertEqual(normal.turns("day", (), "price").at(Offset(5, 5, 5)), 0)
        self.assertEqual(normal.turns("day", (), "price").at(Offset(-5, -5, -5)), 1)

    def test_what_is_not_there(self):
        formula = sum_of("price", "day", rows_between(-2, 1), wanted=["paid", "late"]) + 4
        normal = normal_of(THREE_SORTS, formula)
        self.assertEqual(normal.own(("late", "paid"), "price"), 1)
        for marks, column in [
            (("paid", "late"), "price"), (("late", "paid"), "cost"), (("late", "paid"), ""), (("late",), "price"),
            (("late", "paid"), "nope"), (("nope",), "price"), ((), "price"), (("late", "paid", "void"), "price"),
            (("late", "late", "paid"), "price"),
        ]:
            self.assertEqual(normal.own(marks, column), 0)
            self.assertEqual(normal.others("shop", marks, column), 0)
            self.assertTrue(normal.turns("day", marks, column) == NO_WEIGHT)
        formula = total("price", "day") + total("price", "best")
        normal = normal_of(THREE_SORTS, formula)
        self.assertEqual(normal.others("shop", (), "price"), 1)
        for part in ["town", "nope", "", "day", "price", "date"]:
            self.assertEqual(normal.others(part, (), "price"), 0)
        self.assertEqual(normal_of(PARTED, total("price", "day")).others(None, (), "price"), 0)

    def test_unknown_sorts(self):
        normal = normal_of(PARTED, row_number("day"))
        for name in ["date", "", "shop", "best", "Day"]:
            for marks, column in [((), ""), (("nope",), "nope")]:
                with self.assertRaises(UnknownSort) as caught:
                    normal.turns(name, marks, column)
                self.assertEqual(caught.exception.name, name)

    def test_components_ascend(self):
        formula = sum_of("price", "day", own_row(), wanted=["void"]) + sum_of("cost", "best", ties(), barred=["paid"])
        normal = normal_of(THREE_SORTS, formula + peer_count("town"))
        self.assertEqual(
            normal.components(), [((), ""), ((), "cost"), (("paid",), "cost"), (("void",), "price")],
        )
        self.assertIs(type(normal.components()), list)


class Comparing(unittest.TestCase):
    def test_rewritten_formulas_are_equal(self):
        dice = random.Random(48)
        for at in range(60):
            scheme = ALL_SCHEMES[at % len(ALL_SCHEMES)]
            formula, constant, terms = random_formula(dice, scheme)
            first, second = normal_of(scheme, formula), normal_of(scheme, rewritten(dice, scheme, constant, terms))
            self.assertTrue(first == second)
            self.assertFalse(first != second)
            self.assertEqual(first.components(), second.components())
            self.assertIs(bool(first - second), False)

    def test_one_entry_differs(self):
        formula = running("price", "day") + 2
        for other in [
            own("price", "day"), number(1), total("price", "best") - own("price", "best"),
            count_of("best", rows_between(12, None)), sum_of("cost", "day", own_row()),
            count_of("day", own_row(), wanted=["paid"]), count_of("town", keys_between(10 ** 9, None)),
        ]:
            self.assertFalse(normal_of(THREE_SORTS, formula) == normal_of(THREE_SORTS, formula + other))
            self.assertTrue(normal_of(THREE_SORTS, formula) != normal_of(THREE_SORTS, formula - other))

    def test_other_schemes(self):
        schemes = [
            PARTED,
            Scheme([Sort("days", "date", part="shop")], parts=["shop"], values=["price"], marks=["paid"]),
            Scheme([Sort("day", "dates", part="shop")], parts=["shop"], values=["price"], marks=["paid"]),
            Scheme([Sort("day", "date")], parts=["shop"], values=["price"], marks=["paid"]),
            Scheme([Sort("day", "date", part="shop", descending=True)], parts=["shop"], values=["price"], marks=["paid"]),
            Scheme([Sort("day", "date", part="shop")], parts=["shop", "town"], values=["price"], marks=["paid"]),
            Scheme([Sort("day", "date", part="shop")], parts=["shop"], values=["cost"], marks=["paid"]),
            Scheme([Sort("day", "date", part="shop")], parts=["shop"], values=["price"], marks=["void"]),
            Scheme([Sort("day", "date", part="shop")], parts=["shop"], values=["price"]),
        ]
        normals = [normal_of(scheme, number(4)) for scheme in schemes]
        again = [normal_of(scheme, number(4)) for scheme in schemes]
        for at, first in enumerate(normals):
            for other_at, second in enumerate(again):
                self.assertIs(first == second, at == other_at)
                if at == other_at:
                    self.assertIs(bool(first - second), False)
                else:
                    with self.assertRaises(OtherScheme):
                        first - second
        equal = Scheme([Sort("day", "date", part="shop")], parts=("shop",), values=("price",), marks=("paid",))
        self.assertTrue(normal_of(equal, number(4)) == normals[0])
        self.assertIs(bool(normal_of(equal, number(4)) - normals[0]), False)

    def test_other_values(self):
        normal = normal_of(ONE_SORT, number(0))
        for other in [0, None, False, "", [], {}, number(0), NO_WEIGHT, ONE_SORT]:
            self.assertFalse(normal == other)
            self.assertTrue(normal != other)

    def test_differences(self):
        dice = random.Random(49)
        for at in range(40):
            scheme = ALL_SCHEMES[at % len(ALL_SCHEMES)]
            first, second, third = [random_formula(dice, scheme)[0] for _ in range(3)]
            difference = normal_of(scheme, first) - normal_of(scheme, second)
            self.assertIsInstance(difference, Normal)
            self.assertTrue(difference == normal_of(scheme, first - second))
            twice = difference - (normal_of(scheme, third) - normal_of(scheme, first))
            self.assertTrue(twice == normal_of(scheme, 2 * first - second - third))
            self.assertEqual(twice.components(), normal_of(scheme, 2 * first - second - third).components())

    def test_truth(self):
        for formula, expected in [
            (number(0), False), (number(-1), True), (count_of("day", ~own_row()), True),
            (sum_of("price", "day", rows_between(12, None)), True), (count_of("day", ties(), wanted=["paid"]), True),
            (part_count("day") - count_of("day", ~own_row()) - 1, False), (row_number("day") * 0, False),
        ]:
            self.assertIs(bool(normal_of(PARTED, formula)), expected)

    def test_operands_stay(self):
        first, second = normal_of(PARTED, row_number("day") + 4), normal_of(PARTED, rank_of("day") * 2)
        kept = first
        first -= second
        self.assertTrue(kept == normal_of(PARTED, row_number("day") + 4))
        self.assertTrue(second == normal_of(PARTED, rank_of("day") * 2))
        self.assertTrue(first == normal_of(PARTED, row_number("day") + 4 - 2 * rank_of("day")))


class Errors(unittest.TestCase):
    def test_formulas_that_do_not_fit(self):
        with self.assertRaises(UnknownSort) as caught:
            normal_of(PARTED, row_number("town") + row_number("best") + total("nope", "day"))
        self.assertEqual(caught.exception.name, "best")
        with self.assertRaises(UnknownColumn) as caught:
            normal_of(PARTED, total("nope", "day") + count_of("day", ties(), barred=["gone"]))
        self.assertEqual(caught.exception.name, "gone")
        with self.assertRaises(UnknownColumn) as caught:
            normal_of(PARTED, total("shop", "day"))
        self.assertEqual(caught.exception.name, "shop")


class Copies(unittest.TestCase):
    def test_told_lists(self):
        normal = normal_of(PARTED, row_number("day") + own("price", "day"))
        told = normal.components()
        told.append("more")
        told[0] = None
        self.assertEqual(normal.components(), [((), ""), ((), "price")])
        self.assertTrue(normal == normal_of(PARTED, row_number("day") + own("price", "day")))

    def test_again(self):
        formula = 3 * running("price", "day") - rank_of("day")
        self.assertTrue(normal_of(PARTED, formula) == normal_of(PARTED, formula))
        normal = normal_of(PARTED, formula)
        self.assertTrue(formula_of(normal) == formula_of(normal))
        self.assertTrue(normal == normal_of(PARTED, formula))
        weights = normal.turns("day", (), "price")
        self.assertTrue(weights == normal.turns("day", (), "price"))
        weights += weights
        self.assertFalse(weights == normal.turns("day", (), "price"))


class FormulaOf(unittest.TestCase):
    def check(self, scheme, normal):
        formula = formula_of(normal)
        self.assertIsInstance(formula, Formula)
        self.assertTrue(normal_of(scheme, formula) == normal)
        self.assertEqual([term.barred for term in formula.terms()], [()] * len(formula.terms()))
        return formula

    def test_many_formulas(self):
        dice = random.Random(50)
        rowless_seen = 0
        for at in range(120):
            scheme = ALL_SCHEMES[at % len(ALL_SCHEMES)]
            formula, constant, terms = random_formula(dice, scheme, 4)
            second = self.check(scheme, normal_of(scheme, formula))
            for _ in range(3):
                lay, rows, orders = random_lay(dice, scheme, dice.randrange(7), spread=2)
                self.assertEqual(answers(lay, second), answers(lay, formula))
            if not plain_turn_by_sort(scheme, terms):
                rowless_seen += 1
                self.assertTrue(all(term.window.rowless() for term in second.terms()))
        self.assertGreater(rowless_seen, 10)

    def test_differences(self):
        dice = random.Random(51)
        for at in range(30):
            scheme = ALL_SCHEMES[at % len(ALL_SCHEMES)]
            first, second = [random_formula(dice, scheme)[0] for _ in range(2)]
            self.check(scheme, normal_of(scheme, first) - normal_of(scheme, second))

    def test_no_turns_on_rows(self):
        for formula in [
            running("price", "day") + sum_of("price", "day", rows_between(1, None)),
            row_number("day") + count_of("day", rows_between(1, 5)) + count_of("day", rows_between(6, None)),
            sum_of("price", "day", rows_between(None, -3)) + 2 * sum_of("price", "day", groups_between(-2, 4))
            + sum_of("price", "day", rows_between(-2, None)),
            3 * sum_of("price", "day", ties() | keys_between(2, 7)) - own("price", "day") + 8,
            count_of("day", groups_between(-3, 0) - own_row()) + sum_of("price", "day", own_group(), barred=["paid"]),
            count_of("day", rows_between(-2, 2), wanted=["paid"]) + count_of("day", rows_between(-2, 2), barred=["paid"])
            + count_of("day", ~rows_between(-2, 2)),
        ]:
            found = self.check(PARTED, normal_of(PARTED, formula))
            self.assertTrue(found.terms())
            for term in found.terms():
                self.assertTrue(term.window.rowless())

    def test_normal_form_of_nothing(self):
        for scheme in ALL_SCHEMES:
            found = self.check(scheme, normal_of(scheme, number(0)))
            lay, _, _ = random_lay(random.Random(4), scheme, 4)
            self.assertEqual(answers(lay, found), [0, 0, 0, 0])
        found = self.check(BARE, normal_of(BARE, part_count("day") - part_count("best")))
        self.assertEqual(normal_of(BARE, found).components(), [])

    def test_great_and_far_formulas(self):
        for formula in [
            number(-3 * 10 ** 9), 3 * 10 ** 9 * running("price", "day") - 10 ** 9,
            count_of("day", keys_between(-10 ** 9, 10 ** 9) & rows_between(-12, 12) & groups_between(-12, 11)),
        ]:
            self.check(PARTED, normal_of(PARTED, formula))
            self.check(PARTED, normal_of(PARTED, formula * 10 ** 6))

    def test_every_offset_counts(self):
        # Two functions that differ at one offset only have unlike normal forms.
        base = count_of("day", every())
        for offset in OFFSETS[::17]:
            one = (
                rows_between(offset.rows, offset.rows) & groups_between(offset.groups, offset.groups)
                & keys_between(offset.distance, offset.distance)
            )
            self.assertFalse(normal_of(ONE_SORT, base) == normal_of(ONE_SORT, base + count_of("day", one)))
            self.check(ONE_SORT, normal_of(ONE_SORT, base + 5 * count_of("day", one)))


if __name__ == "__main__":
    unittest.main()
