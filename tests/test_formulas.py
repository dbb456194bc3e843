"""Promises 33 to 36, promise 39 for formulas, and promise 2 for formulas and terms."""

import itertools
import random
import unittest

from table_samples import PARTED, THREE_SORTS, WINDOWS, formula_with, random_terms
from windowrows.answers import answers
from windowrows.errors import MarkTwice, UnknownColumn, UnknownSort
from windowrows.formulas import Formula, Term, check, count_of, number, sum_of
from windowrows.lays import first_lay
from windowrows.regions import (
    every, groups_between, keys_between, nothing, own_group, own_row, region_of, rows_between, ties, weights_of,
)
from windowrows.schemes import Scheme, Sort
from windowrows.tables import Table


def shape(term):
    """Return a term in plain values, but for the window."""
    return (term.factor, term.column, term.sort_name, term.wanted, term.barred)


def shapes(formula):
    return sorted(shape(term) for term in formula.terms())


class MakingFormulas(unittest.TestCase):
    def test_number(self):
        for value in [0, 1, -1, 7, 10 ** 40, -10 ** 40]:
            formula = number(value)
            self.assertIsInstance(formula, Formula)
            self.assertEqual(formula.constant, value)
            self.assertEqual(formula.terms(), [])

    def test_the_attributes_of_a_count(self):
        window = rows_between(-2, 0)
        formula = count_of("day", window, wanted=("void", "paid"), barred=("late",))
        self.assertIsInstance(formula, Formula)
        self.assertEqual(formula.constant, 0)
        term, = formula.terms()
        self.assertIsInstance(term, Term)
        self.assertEqual(term.factor, 1)
        self.assertEqual(term.column, "")
        self.assertEqual(term.sort_name, "day")
        self.assertTrue(term.window == window)
        self.assertEqual(term.wanted, ("paid", "void"))
        self.assertEqual(term.barred, ("late",))

    def test_the_attributes_of_a_sum(self):
        formula = sum_of("price", "best", keys_between(3, None), barred=["void", "late", "paid"])
        self.assertEqual(formula.constant, 0)
        term, = formula.terms()
        self.assertEqual(shape(term), (1, "price", "best", (), ("late", "paid", "void")))
        self.assertTrue(term.window == keys_between(3, None))

    def test_what_is_left_out(self):
        for formula in [count_of("day", every()), sum_of("price", "day", every())]:
            term, = formula.terms()
            self.assertEqual((term.wanted, term.barred), ((), ()))

    def test_marks_are_passed_by_name(self):
        with self.assertRaises(TypeError):
            count_of("day", every(), ("paid",))
        with self.assertRaises(TypeError):
            sum_of("price", "day", every(), ("paid",))

    def test_marks_in_any_order(self):
        for marks in itertools.permutations(["a", "b", "c"]):
            for given in [tuple(marks), list(marks)]:
                first, = count_of("day", every(), wanted=given).terms()
                second, = sum_of("price", "day", every(), barred=given).terms()
                self.assertEqual((first.wanted, first.barred), (("a", "b", "c"), ()))
                self.assertEqual((second.wanted, second.barred), ((), ("a", "b", "c")))

    def test_empty_windows(self):
        for window in [nothing(), rows_between(1, 2) & rows_between(3, 4), own_row() - every()]:
            for formula in [count_of("day", window), sum_of("price", "day", window, wanted=["a"], barred=["b"])]:
                self.assertEqual(formula.terms(), [])
                self.assertEqual(formula.constant, 0)
                self.assertIs(formula == number(0), True)

    def test_names_are_not_checked(self):
        formula = sum_of("not", "", every(), wanted=["Any Thing", "rows"], barred=[""])
        term, = formula.terms()
        self.assertEqual(shape(term), (1, "not", "", ("Any Thing", "rows"), ("",)))


class Marks(unittest.TestCase):
    def check(self, wanted, barred, mark):
        for window in [every(), nothing(), own_row()]:
            for make in [lambda **marks: count_of("day", window, **marks),
                         lambda **marks: sum_of("price", "day", window, **marks)]:
                for kind in [tuple, list]:
                    with self.assertRaises(MarkTwice) as caught:
                        make(wanted=kind(wanted), barred=kind(barred))
                    self.assertEqual(caught.exception.mark, mark)

    def test_twice_in_one_list(self):
        self.check(["a", "a"], [], "a")
        self.check([], ["a", "a"], "a")
        self.check(["b", "a", "b"], [], "b")
        self.check(["a", "a", "a"], [], "a")

    def test_once_in_each_list(self):
        self.check(["a"], ["a"], "a")
        self.check(["a", "b"], ["c", "b"], "b")

    def test_the_first_second_time(self):
        self.check(["a", "b", "b", "a"], [], "b")
        self.check(["a", "b"], ["b", "a"], "b")
        self.check(["b", "a"], ["c", "a", "b"], "a")
        self.check(["z", "z"], ["a", "a"], "z")
        self.check(["a", "z"], ["z", "b", "b"], "z")
        self.check(["c", "b", "a", "c"], ["a"], "c")
        self.check(["c"], ["b", "b", "c"], "b")

    def test_against_reading_them_in_order(self):
        for marks in itertools.product("abc", repeat=4):
            twice = [mark for place, mark in enumerate(marks) if mark in marks[:place]]
            for cut in range(5):
                self.check(marks[:cut], marks[cut:], twice[0])


class Sums(unittest.TestCase):
    """All operators, by the constants and the terms of what they return."""

    def setUp(self):
        self.count = count_of("day", rows_between(None, 0), wanted=["paid"])
        self.price = sum_of("price", "best", ties())

    def test_formulas(self):
        total = (self.count + 3) + (self.price + 4)
        self.assertEqual(total.constant, 7)
        self.assertEqual(shapes(total), [(1, "", "day", ("paid",), ()), (1, "price", "best", (), ())])
        rest = (self.count + 3) - (self.price + 4)
        self.assertEqual(rest.constant, -1)
        self.assertEqual(shapes(rest), [(-1, "price", "best", (), ()), (1, "", "day", ("paid",), ())])

    def test_an_integer_on_either_side(self):
        for formula, constant, factor in [
            (self.count + 5, 5, 1), (5 + self.count, 5, 1), (self.count - 5, -5, 1), (5 - self.count, 5, -1),
            (self.count + 0, 0, 1), (0 + self.count, 0, 1), (0 - self.count, 0, -1), (-5 - self.count, -5, -1),
            (self.count + -5, -5, 1), (number(2) + self.count, 2, 1), (number(2) - self.count, 2, -1),
        ]:
            self.assertIsInstance(formula, Formula)
            self.assertEqual(formula.constant, constant)
            self.assertEqual(shapes(formula), [(factor, "", "day", ("paid",), ())])

    def test_an_integer_stands_for_its_number(self):
        for value in [-3, 0, 8]:
            self.assertTrue(self.price + value == self.price + number(value))
            self.assertTrue(value + self.price == number(value) + self.price)
            self.assertTrue(self.price - value == self.price - number(value))
            self.assertTrue(value - self.price == number(value) - self.price)

    def test_negatives(self):
        formula = -(2 * self.count - self.price + 4)
        self.assertEqual(formula.constant, -4)
        self.assertEqual(shapes(formula), [(-2, "", "day", ("paid",), ()), (1, "price", "best", (), ())])
        self.assertTrue(-formula == 2 * self.count - self.price + 4)
        self.assertTrue(-number(3) == number(-3))

    def test_multiples(self):
        formula = 3 * self.count - 2 * self.price + 5
        for factor in [0, 1, -1, 2, -7, 3 * 10 ** 9]:
            for found in [formula * factor, factor * formula]:
                self.assertIsInstance(found, Formula)
                self.assertEqual(found.constant, 5 * factor)
                expected = [] if factor == 0 else sorted([
                    (3 * factor, "", "day", ("paid",), ()), (-2 * factor, "price", "best", (), ()),
                ])
                self.assertEqual(shapes(found), expected)

    def test_sum_of_a_list(self):
        formulas = [self.count, self.price, self.count, number(4)]
        self.assertTrue(sum(formulas) == 2 * self.count + self.price + 4)

    def test_terms_are_put_together(self):
        total = 3 * self.count + self.price
        for other, factor in [(self.count, 4), (-self.count, 2), (4 * self.count, 7), (-5 * self.count, -2)]:
            found = total + other
            self.assertEqual(shapes(found), sorted([
                (factor, "", "day", ("paid",), ()), (1, "price", "best", (), ()),
            ]))
            self.assertTrue(found - other == total)

    def test_windows_that_were_made_in_another_way(self):
        for first, second in [
            (rows_between(None, 0), ~rows_between(1, None)), (ties(), own_group() - own_row()),
            (every() - groups_between(0, None), groups_between(None, -1)),
            (region_of(weights_of(ties(), 5)), -ties()), (keys_between(1, 3) | keys_between(2, 6), keys_between(1, 6)),
        ]:
            total = count_of("day", first) + 2 * count_of("day", second)
            self.assertEqual(shapes(total), [(3, "", "day", (), ())])
            self.assertEqual((count_of("day", first) - count_of("day", second)).terms(), [])
            self.assertTrue(sum_of("price", "day", first) == sum_of("price", "day", second))

    def test_terms_that_differ_elsewhere_stay_apart(self):
        window = rows_between(-1, 1)
        formulas = [
            count_of("day", window), count_of("best", window), count_of("day", rows_between(-1, 2)),
            sum_of("price", "day", window), sum_of("cost", "day", window), count_of("day", window, wanted=["paid"]),
            count_of("day", window, barred=["paid"]), count_of("day", window, wanted=["void"]),
            count_of("day", window, wanted=["paid", "void"]), count_of("day", window, wanted=["paid"], barred=["void"]),
            count_of("day", window, wanted=["void"], barred=["paid"]), count_of("day", -window - own_row()),
        ]
        total = sum(formulas)
        self.assertEqual(len(total.terms()), len(formulas))
        self.assertEqual({term.factor for term in total.terms()}, {1})
        for first, second in itertools.combinations(formulas, 2):
            self.assertIs(first == second, False)
            self.assertEqual(len((first + second).terms()), 2)
            self.assertEqual(len((first - second).terms()), 2)

    def test_marks_in_another_order_are_the_same(self):
        first = count_of("day", every(), wanted=["a", "b"], barred=["d", "c"])
        second = count_of("day", every(), wanted=("b", "a"), barred=("c", "d"))
        self.assertTrue(first == second)
        self.assertEqual(len((first + second).terms()), 1)

    def test_terms_that_vanish(self):
        for formula in [
            self.count - self.count, self.count + -self.count, 0 * self.count, self.count * 0,
            3 * self.count - 2 * self.count - self.count, -self.count + self.count,
        ]:
            self.assertEqual(formula.terms(), [])
            self.assertTrue(formula == number(0))
        left = self.count + self.price - self.count
        self.assertTrue(left == self.price)
        self.assertEqual(len(left.terms()), 1)

    def test_a_new_object_for_each_assignment(self):
        total = first = self.count + 1
        total += self.price
        self.assertTrue(first == self.count + 1)
        self.assertTrue(total == self.count + self.price + 1)
        total -= self.count
        self.assertTrue(total == self.price + 1)
        second = total
        total += 3
        total *= -2
        self.assertTrue(second == self.price + 1)
        self.assertTrue(total == -2 * self.price - 8)
        self.assertTrue(first == self.count + 1)

    def test_an_integer_that_becomes_a_formula(self):
        total = 0
        total += self.count
        total -= 4
        self.assertTrue(total == self.count - 4)

    def test_operands_stay_as_they_are(self):
        first, second = 2 * self.count + 1, self.count - self.price
        for _ in range(2):
            self.assertTrue(first + second == 3 * self.count - self.price + 1)
            self.assertTrue(first - second == self.count + self.price + 1)
            self.assertTrue(-first == -2 * self.count - 1)
            self.assertTrue(first * 4 == 8 * self.count + 4)
            self.assertTrue(6 - second == self.price - self.count + 6)
        self.assertEqual((first.constant, shapes(first)), (1, [(2, "", "day", ("paid",), ())]))
        self.assertEqual(second.constant, 0)
        self.assertEqual(shapes(second), [(-1, "price", "best", (), ()), (1, "", "day", ("paid",), ())])

    def test_operators_by_the_answers(self):
        dice = random.Random(35)
        rows = [
            {**{column: dice.randrange(3) for column in THREE_SORTS.columns()}, "paid": at % 2, "void": at // 2 % 2,
             "late": at // 4}
            for at in range(7)
        ]
        lay = first_lay(Table(THREE_SORTS, rows))
        formulas = [
            formula_with(dice.randrange(-5, 6), random_terms(dice, THREE_SORTS, count)) for count in [0, 1, 2, 4, 6]
        ]
        for first, second in itertools.product(formulas, repeat=2):
            ones, others = answers(lay, first), answers(lay, second)
            self.assertEqual(answers(lay, first + second), [one + other for one, other in zip(ones, others)])
            self.assertEqual(answers(lay, first - second), [one - other for one, other in zip(ones, others)])
        for formula in formulas:
            ones = answers(lay, formula)
            self.assertEqual(answers(lay, -formula), [-one for one in ones])
            for factor in [-3, 0, 1, 10]:
                self.assertEqual(answers(lay, formula * factor), [one * factor for one in ones])
                self.assertEqual(answers(lay, factor * formula), [one * factor for one in ones])
                self.assertEqual(answers(lay, formula + factor), [one + factor for one in ones])
                self.assertEqual(answers(lay, factor - formula), [factor - one for one in ones])


class Equality(unittest.TestCase):
    def test_terms_in_any_order(self):
        parts = [
            count_of("day", every()), 2 * sum_of("price", "day", ties()), -count_of("best", own_row(), wanted=["a"]),
            number(4),
        ]
        for order in itertools.permutations(parts):
            self.assertIs(sum(order) == sum(parts), True)
            self.assertIs(sum(order) != sum(parts), False)

    def test_unequal(self):
        formula = 2 * count_of("day", every()) + 1
        for other in [
            2 * count_of("day", every()), 2 * count_of("day", every()) + 2, 3 * count_of("day", every()) + 1,
            2 * count_of("best", every()) + 1, 2 * sum_of("day", "day", every()) + 1, number(1), formula + formula,
            formula + count_of("best", every()), 2 * count_of("day", ties()) + 1,
        ]:
            self.assertIs(formula == other, False)
            self.assertIs(other == formula, False)
            self.assertIs(formula != other, True)

    def test_formulas_with_the_same_answers_may_be_unequal(self):
        self.assertIs(
            count_of("day", ties()) + count_of("day", own_row()) == count_of("day", own_group()), False,
        )

    def test_other_values(self):
        for formula in [number(0), number(5), count_of("day", every())]:
            for other in [0, 5, None, "", [], formula.terms(), Formula, every(), "count(by day; all)"]:
                self.assertIs(formula == other, False)
                self.assertIs(other == formula, False)

    def test_calls_that_are_repeated(self):
        window = rows_between(-1, 1)
        self.assertTrue(count_of("day", window) == count_of("day", window))
        formula = count_of("day", window) + sum_of("price", "day", window)
        self.assertEqual(shapes(formula), shapes(formula))
        self.assertTrue(formula + formula == formula + formula)


class Copies(unittest.TestCase):
    def test_handed_lists(self):
        wanted, barred = ["b", "a"], ["d", "c"]
        formula = count_of("day", every(), wanted=wanted, barred=barred)
        self.assertEqual((wanted, barred), (["b", "a"], ["d", "c"]))
        wanted.append("z")
        barred.clear()
        term, = formula.terms()
        self.assertEqual((term.wanted, term.barred), (("a", "b"), ("c", "d")))
        self.assertTrue(formula == count_of("day", every(), wanted=["a", "b"], barred=["c", "d"]))

    def test_told_lists(self):
        formula = count_of("day", every()) + sum_of("price", "day", ties())
        told = formula.terms()
        self.assertIs(type(told), list)
        told.clear()
        self.assertEqual(len(formula.terms()), 2)
        self.assertIsNot(formula.terms(), formula.terms())

    def test_kinds_of_values(self):
        for term in (3 * count_of("day", every(), wanted=["a"]) - sum_of("price", "day", ties())).terms():
            self.assertIs(type(term.factor), int)
            for word in (term.column, term.sort_name):
                self.assertIs(type(word), str)
            for marks in (term.wanted, term.barred):
                self.assertIs(type(marks), tuple)


class Checks(unittest.TestCase):
    def fails(self, error, scheme, formula, name):
        for tried in [formula, -formula, formula + 3, number(0) + 5 * formula]:
            with self.assertRaises(error) as caught:
                check(scheme, tried)
            self.assertEqual(caught.exception.name, name)

    def test_formulas_that_fit(self):
        self.assertIsNone(check(PARTED, number(4)))
        self.assertIsNone(check(PARTED, sum_of("price", "day", every(), wanted=["paid"])))
        self.assertIsNone(check(PARTED, count_of("day", every(), barred=["paid"])))
        dice = random.Random(36)
        for _ in range(20):
            self.assertIsNone(check(THREE_SORTS, formula_with(2, random_terms(dice, THREE_SORTS, 5))))

    def test_unknown_sorts(self):
        for name in ["date", "shop", "price", "paid", "Day", "", "zzz", "days"]:
            self.fails(UnknownSort, PARTED, count_of(name, every()), name)
            self.fails(UnknownSort, PARTED, sum_of("price", name, every()), name)

    def test_the_least_unknown_sort(self):
        for names in itertools.permutations(["best", "Z", "town", "a"]):
            formula = sum([count_of(name, every()) for name in names]) + count_of("day", every())
            self.fails(UnknownSort, PARTED, formula, "Z")
        self.fails(UnknownSort, PARTED, count_of("ab", every()) + count_of("a", every()), "a")
        self.fails(UnknownSort, PARTED, count_of("zz", every()) + count_of("day", every()), "zz")

    def test_unknown_columns(self):
        for name in ["date", "shop", "paid", "cost", "Price", "day"]:
            self.fails(UnknownColumn, PARTED, sum_of(name, "day", every()), name)
        for name in ["date", "shop", "price", "void", "Paid", "day", ""]:
            self.fails(UnknownColumn, PARTED, count_of("day", every(), wanted=[name]), name)
            self.fails(UnknownColumn, PARTED, sum_of("price", "day", every(), barred=["paid", name]), name)

    def test_the_least_of_columns_and_marks(self):
        for column, wanted, barred in itertools.permutations(["aa", "mm", "zz"]):
            formula = sum_of(column, "day", every(), wanted=[wanted, "paid"], barred=[barred])
            self.fails(UnknownColumn, PARTED, formula, "aa")
        for first, second in itertools.permutations(["aa", "bb"]):
            formula = sum_of(first, "day", every()) + count_of("day", every(), wanted=[second])
            self.fails(UnknownColumn, PARTED, formula, "aa")
            formula = count_of("day", every(), barred=[first]) + count_of("day", ties(), wanted=[second])
            self.fails(UnknownColumn, PARTED, formula, "aa")
        self.fails(UnknownColumn, PARTED, sum_of("price", "day", every(), wanted=["price"]), "price")
        self.fails(UnknownColumn, PARTED, sum_of("paid", "day", every(), wanted=["price"]), "paid")

    def test_known_names_do_not_count(self):
        formula = sum_of("cost", "day", every(), wanted=["late"]) + sum_of("zzz", "best", every(), barred=["paid"])
        self.fails(UnknownColumn, THREE_SORTS, formula, "zzz")

    def test_sorts_come_before_columns(self):
        formula = sum_of("aaa", "day", every()) + count_of("zzz", every(), wanted=["aaaa"])
        self.fails(UnknownSort, PARTED, formula, "zzz")
        self.fails(UnknownSort, PARTED, sum_of("aaa", "best", every(), barred=["aa"]), "best")

    def test_terms_that_vanish_are_not_checked(self):
        formula = count_of("zzz", every(), wanted=["yyy"])
        self.assertIsNone(check(PARTED, formula - formula + 4))
        self.assertIsNone(check(PARTED, sum_of("zzz", "yyy", nothing())))

    def test_names_that_are_both(self):
        scheme = Scheme([Sort("price", "date")], values=["price"], marks=["paid"])
        self.assertIsNone(check(scheme, sum_of("price", "price", every(), wanted=["paid"])))
        self.fails(UnknownSort, scheme, count_of("date", every()), "date")

    def test_the_formula_stays_as_it_is(self):
        formula = count_of("best", every()) + 1
        self.fails(UnknownSort, PARTED, formula, "best")
        self.assertTrue(formula == count_of("best", every()) + 1)


class Bounds(unittest.TestCase):
    def test_great_formulas(self):
        great = 3 * 10 ** 9
        formulas = [count_of("day", window) for window, _ in WINDOWS] + [
            sum_of("price", "day", rows_between(low, low + 1), wanted=["paid"]) for low in range(-12, 12)
        ]
        total = number(great)
        for formula in formulas:
            total = total + great * formula
        self.assertEqual(len(total.terms()), len(formulas) - 1)
        self.assertIsNone(check(PARTED, total))
        doubled = total * great
        self.assertEqual({term.factor for term in doubled.terms()}, {great * great})
        self.assertTrue(doubled - total * (great - 1) == total)
        rows = [{"shop": 0, "date": 0, "price": 10 ** 12, "paid": 1}] * 2
        lay = first_lay(Table(PARTED, rows))
        self.assertEqual(answers(lay, doubled), [great * answer for answer in answers(lay, total)])


if __name__ == "__main__":
    unittest.main()
