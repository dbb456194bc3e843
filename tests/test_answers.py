"""Promise 40, with promises 33, 36 and 39 for answers, and promise 2 for them."""

import random
import unittest

from table_samples import (
    ONE_SORT, PARTED, SCHEMES, THREE_SORTS, WINDOWS, answer_samples, formula_with, plain_answers, random_lay,
    random_terms,
)
from windowrows.answers import answer, answers
from windowrows.errors import BadNumber, UnknownColumn, UnknownSort
from windowrows.formulas import count_of, number, sum_of
from windowrows.lays import Lay, first_lay
from windowrows.regions import every, groups_between, keys_between, own_row, rows_between, ties
from windowrows.tables import Table

SAMPLES = answer_samples(40, 160)


class ByEveryPair(unittest.TestCase):
    def test_answers(self):
        for scheme, lay, formula, expected in SAMPLES:
            found = answers(lay, formula)
            self.assertEqual(found, expected)
            self.assertIs(type(found), list)

    def test_answer(self):
        for scheme, lay, formula, expected in SAMPLES:
            self.assertEqual([answer(lay, formula, row) for row in range(len(lay.table))], expected)

    def test_each_window_and_sort_alone(self):
        dice = random.Random(33)
        for scheme in SCHEMES:
            lay, rows, orders = random_lay(dice, scheme, 8, 2)
            for sort in scheme.sort_names():
                for window in range(len(WINDOWS)):
                    for column in ["", *scheme.value_columns]:
                        terms = [(1, column, sort, window, [], [])]
                        expected = plain_answers(scheme, rows, orders, 0, terms)
                        self.assertEqual(answers(lay, formula_with(0, terms)), expected)

    def test_marks(self):
        dice = random.Random(34)
        lay, rows, orders = random_lay(dice, THREE_SORTS, 12, 1)
        for wanted, barred in [
            ([], []), (["paid"], []), ([], ["paid"]), (["paid", "void"], []), (["paid"], ["void"]),
            ([], ["void", "late"]), (["late"], ["paid", "void"]), (["paid", "void", "late"], []),
            ([], ["paid", "void", "late"]),
        ]:
            for column in ["", "cost"]:
                terms = [(2, column, "best", 12, wanted, barred)]
                expected = plain_answers(THREE_SORTS, rows, orders, 1, terms)
                self.assertEqual(answers(lay, formula_with(1, terms)), expected)

    def test_sixty_rows(self):
        dice = random.Random(60)
        lay, rows, orders = random_lay(dice, THREE_SORTS, 60, 5)
        terms = random_terms(dice, THREE_SORTS, 2)
        expected = plain_answers(THREE_SORTS, rows, orders, 3, terms)
        formula = formula_with(3, terms)
        self.assertEqual(answers(lay, formula), expected)
        self.assertEqual(answer(lay, formula, 59), expected[59])


class WrittenOut(unittest.TestCase):
    def setUp(self):
        rows = [
            {"shop": shop, "date": date, "price": price, "paid": paid}
            for shop, date, price, paid in [(0, 5, 10, 1), (0, 3, 20, 0), (1, 4, 40, 1), (0, 5, 80, 1), (0, 9, 160, 0)]
        ]
        self.lay = Lay(Table(PARTED, rows), {"day": [1, 3, 0, 4, 2]})

    def check(self, formula, expected):
        self.assertEqual(answers(self.lay, formula), expected)
        self.assertEqual([answer(self.lay, formula, row) for row in range(5)], expected)

    def test_counts_and_sums(self):
        self.check(count_of("day", rows_between(None, 0)), [3, 1, 1, 2, 4])
        self.check(sum_of("price", "day", rows_between(None, 0)), [110, 20, 40, 100, 270])
        self.check(sum_of("price", "day", ties()), [80, 0, 0, 10, 0])
        self.check(sum_of("price", "day", keys_between(2, 4)), [160, 90, 0, 160, 0])
        self.check(sum_of("price", "day", groups_between(1, 1)), [160, 90, 0, 160, 0])

    def test_marks(self):
        self.check(count_of("day", every(), wanted=["paid"]), [2, 2, 1, 2, 2])
        self.check(count_of("day", every(), barred=["paid"]), [2, 2, 0, 2, 2])
        self.check(sum_of("price", "day", every(), barred=["paid"]), [180, 180, 0, 180, 180])
        self.check(sum_of("price", "day", own_row(), wanted=["paid"]), [10, 0, 40, 80, 0])

    def test_constants_and_factors(self):
        self.check(number(-4), [-4] * 5)
        self.check(7 - 2 * count_of("day", rows_between(None, 0)), [1, 5, 5, 3, -1])
        self.check(3 * sum_of("price", "day", own_row()) + count_of("day", every()), [34, 64, 121, 244, 484])

    def test_a_sum_over_no_rows(self):
        self.check(sum_of("price", "day", rows_between(5, None)), [0] * 5)
        self.check(sum_of("price", "day", rows_between(5, None)) + 3, [3] * 5)

    def test_another_lay_of_the_same_table(self):
        other = self.lay.exchanged("day", 0, 3)
        self.assertEqual(answers(other, sum_of("price", "day", rows_between(None, 0))), [30, 20, 40, 110, 270])


class FewRows(unittest.TestCase):
    def test_without_rows(self):
        for scheme in SCHEMES:
            lay = first_lay(Table(scheme, []))
            self.assertEqual(answers(lay, number(3)), [])
            self.assertEqual(answers(lay, count_of(scheme.sort_names()[0], every())), [])

    def test_one_row(self):
        lay = first_lay(Table(ONE_SORT, [{"date": -4, "price": -9}]))
        self.assertEqual(answers(lay, sum_of("price", "day", every()) + 1), [-8])
        self.assertEqual(answers(lay, sum_of("price", "day", every() - own_row()) + 1), [1])
        self.assertEqual(answer(lay, count_of("day", every()), 0), 1)


class Errors(unittest.TestCase):
    def setUp(self):
        self.rows = [{"shop": 0, "date": at, "price": at, "paid": 0} for at in range(3)]
        self.lay = first_lay(Table(PARTED, self.rows))

    def test_numbers_that_do_not_exist(self):
        for formula in [number(1), count_of("day", every())]:
            for row in [-1, -3, 3, 4, 10 ** 15]:
                with self.assertRaises(BadNumber) as caught:
                    answer(self.lay, formula, row)
                self.assertEqual(caught.exception.number, row)
        with self.assertRaises(BadNumber) as caught:
            answer(first_lay(Table(PARTED, [])), number(1), 0)
        self.assertEqual(caught.exception.number, 0)

    def test_formulas_that_do_not_fit(self):
        for formula, error, name in [
            (count_of("best", every()), UnknownSort, "best"), (sum_of("cost", "day", every()), UnknownColumn, "cost"),
            (count_of("day", every(), barred=["void"]), UnknownColumn, "void"),
            (sum_of("date", "zzz", every()) + count_of("yyy", every()), UnknownSort, "yyy"),
            (sum_of("shop", "day", every(), wanted=["date"]), UnknownColumn, "date"),
        ]:
            for row in [0, 2, 3, -1]:
                with self.assertRaises(error) as caught:
                    answer(self.lay, formula, row)
                self.assertEqual(caught.exception.name, name)
            for lay in [self.lay, first_lay(Table(PARTED, []))]:
                with self.assertRaises(error) as caught:
                    answers(lay, formula)
                self.assertEqual(caught.exception.name, name)


class Arguments(unittest.TestCase):
    def test_they_stay_as_they_are(self):
        for scheme, lay, formula, expected in SAMPLES[:20]:
            orders = [lay.order(name) for name in scheme.sort_names()]
            shape = [(term.factor, term.column, term.sort_name) for term in formula.terms()]
            told = answers(lay, formula)
            told.append(4)
            self.assertEqual(answers(lay, formula), expected)
            self.assertEqual([lay.order(name) for name in scheme.sort_names()], orders)
            self.assertEqual([(term.factor, term.column, term.sort_name) for term in formula.terms()], shape)

    def test_great_numbers(self):
        rows = [{"date": 0, "price": 10 ** 12}, {"date": 10 ** 12, "price": 10 ** 12}]
        lay = first_lay(Table(ONE_SORT, rows))
        formula = 3 * 10 ** 9 * sum_of("price", "day", keys_between(0, 2 * 10 ** 12)) - 3 * 10 ** 9
        self.assertEqual(answers(lay, formula), [6 * 10 ** 21 - 3 * 10 ** 9, 3 * 10 ** 21 - 3 * 10 ** 9])
        self.assertEqual(answers(lay, formula * 10 ** 9), [(6 * 10 ** 12 - 3) * 10 ** 18, (3 * 10 ** 12 - 3) * 10 ** 18])


if __name__ == "__main__":
    unittest.main()
