"""Promise 64: the greatest and the least answer at a row over all lays of a table."""

import random
import time
import unittest

from formula_models import all_lays, random_formula
from table_samples import ONE_SORT, PARTED, SCHEMES, THREE_SORTS, formula_with, random_rows, random_terms
from windowrows.answers import answer, answers
from windowrows.errors import BadNumber, UnknownColumn, UnknownSort
from windowrows.extremes import Extreme, greatest, least
from windowrows.formulas import count_of, number, sum_of
from windowrows.lays import Lay, lay_count
from windowrows.named import moving, rank_of, row_number, running, shifted, total
from windowrows.regions import every, keys_between, own_group, rows_between, ties
from windowrows.schemes import Scheme, Sort
from windowrows.tables import Table

MANY_SORTS = Scheme(
    [Sort("day", "date"), Sort("best", "points", descending=True), Sort("town", "size")],
    values=["price", "cost"], marks=["paid"],
)
MOST_LAYS = 300


class Checks(unittest.TestCase):
    def check(self, table, formula, row, low, high):
        for function, expected in [(least, low), (greatest, high)]:
            found = function(table, formula, row)
            self.assertIsInstance(found, Extreme)
            self.assertEqual(found.answer, expected)
            self.assertIs(type(found.answer), int)
            self.assertIsInstance(found.lay, Lay)
            self.assertTrue(found.lay.table == table)
            self.assertEqual(answer(found.lay, formula, row), expected)

    def check_with_all_lays(self, table, formula):
        found = [answers(lay, formula) for lay in all_lays(table)]
        for row in range(len(table)):
            told = [each[row] for each in found]
            self.check(table, formula, row, min(told), max(told))
        return len(found)


class WithAllLays(Checks):
    def test_random_tables(self):
        dice = random.Random(64)
        several = 0
        for at in range(200):
            scheme = [*SCHEMES, MANY_SORTS][at % 5]
            table = Table(scheme, random_rows(dice, scheme, dice.randrange(1, 6), dice.choice([0, 1, 2])))
            if lay_count(table) <= MOST_LAYS:
                several += self.check_with_all_lays(table, random_formula(dice, scheme, 4)[0]) > 1
        self.assertGreater(several, 60)

    def test_all_peers(self):
        for values in [[5, -5, 1, 2], [1, 2, 4, 8, 16], [-3, -3, -3], [0, 9, -9, 9, 0]]:
            table = Table(ONE_SORT, [{"date": 2, "price": value} for value in values])
            for formula in [
                running("price", "day"), 3 - 2 * row_number("day"), shifted("price", "day", -2), moving("price", "day", 1, 1),
                sum_of("price", "day", rows_between(2, None)) - 3 * shifted("price", "day", 1),
            ]:
                self.check_with_all_lays(table, formula)

    def test_several_groups(self):
        table = Table(ONE_SORT, [{"date": key, "price": price} for key, price in [(1, 5), (1, -2), (2, 7), (4, 1), (4, 8)]])
        for formula in [
            shifted("price", "day", 3), shifted("price", "day", -2), moving("price", "day", 2, 2),
            sum_of("price", "day", rows_between(1, 3) - own_group()), sum_of("price", "day", keys_between(1, 3) & rows_between(2, 3)),
        ]:
            self.check_with_all_lays(table, formula)
            self.check_with_all_lays(table, formula * -3 + 1)

    def test_parts(self):
        table = Table(PARTED, [
            {"shop": shop, "date": 1, "price": price, "paid": paid}
            for shop, price, paid in [(0, 100, 1), (0, -50, 0), (1, 4, 1), (1, 9, 0), (1, 6, 1)]
        ])
        self.check(table, running("price", "day"), 0, 50, 100)
        self.check(table, running("price", "day"), 1, -50, 50)
        self.check(table, running("price", "day"), 2, 4, 19)
        self.check(table, sum_of("price", "day", rows_between(-1, -1), wanted=["paid"]), 3, 0, 6)
        self.check(table, total("price", "day") - rank_of("day"), 4, 18, 18)
        self.check_with_all_lays(table, moving("price", "day", 1, 0) - count_of("day", rows_between(1, None), barred=["paid"]))


class ManyPeers(Checks):
    def test_ten_peers(self):
        values = [7, -3, 0, 12, 5, -8, 1, 1, 30, -2]
        table = Table(ONE_SORT, [{"date": 3, "price": value} for value in values])
        begun = time.process_time()
        for row in [0, 5, 8]:
            own_value = values[row]
            others = sorted(values[:row] + values[row + 1:])
            self.check(
                table, running("price", "day"), row,
                own_value + sum(value for value in others if value < 0),
                own_value + sum(value for value in others if value > 0),
            )
            self.check(table, row_number("day"), row, 1, 10)
            self.check(table, shifted("price", "day", 1), row, others[0], others[-1])
            self.check(table, shifted("price", "day", 9), row, min(0, others[0]), others[-1])
            pair = moving("price", "day", 1, 1) - moving("price", "day", 0)
            self.check(table, pair, row, others[0] + others[1], others[-1] + others[-2])
            self.check(table, total("price", "day"), row, sum(values), sum(values))
            apart = shifted("price", "day", 1) - shifted("price", "day", -1)
            self.check(table, apart, row, others[0] - others[-1], others[-1] - others[0])
        self.assertLess(time.process_time() - begun, 20)

    def test_seven_rows_in_three_sorts(self):
        values = [4, -1, 9, 0, -6, 2, 8]
        rows = [
            {"date": 1, "points": 2, "size": 3, "price": value, "cost": 1, "paid": int(value > 3)} for value in values
        ]
        table = Table(MANY_SORTS, rows)
        begun = time.process_time()
        formula = shifted("price", "day", 1) - shifted("price", "best", 2) + 10 * shifted("price", "town", -6)
        for row in [0, 3, 6]:
            others = sorted(values[:row] + values[row + 1:])
            self.check(
                table, formula, row,
                min(0, others[0]) - others[-1] + 10 * min(0, others[0]), others[-1] - others[0] + 10 * others[-1],
            )
        dice = random.Random(7)
        for _ in range(10):
            formula = formula_with(0, random_terms(dice, MANY_SORTS, 7))
            low, high = least(table, formula, 2), greatest(table, formula, 2)
            self.assertEqual(answer(low.lay, formula, 2), low.answer)
            self.assertEqual(answer(high.lay, formula, 2), high.answer)
            self.assertLessEqual(low.answer, high.answer)
            self.assertEqual(least(table, -formula, 2).answer, -high.answer)
        self.assertLess(time.process_time() - begun, 20)

    def test_ten_rows_in_groups(self):
        rows = [{"date": at // 5, "price": value} for at, value in enumerate([1, 2, 4, 8, 16, 100, 200, 400, 800, 1600])]
        table = Table(ONE_SORT, rows)
        window = rows_between(1, None)
        self.check(table, sum_of("price", "day", window), 0, 3100, 3130)
        self.check(table, sum_of("price", "day", rows_between(5, 5)), 0, 100, 1600)
        self.check(table, sum_of("price", "day", rows_between(-1, 1)), 9, 1700, 1600 + 800 + 400)
        self.check(table, sum_of("price", "day", window & own_group()), 5, 0, 3000)


class Errors(Checks):
    def test_numbers_that_do_not_exist(self):
        for count in [0, 1, 3]:
            table = Table(ONE_SORT, [{"date": 1, "price": 2}] * count)
            for row in [-1, count, count + 4, -count - 1]:
                for function in [greatest, least]:
                    for formula in [row_number("day"), number(4)]:
                        with self.assertRaises(BadNumber) as caught:
                            function(table, formula, row)
                        self.assertEqual(caught.exception.number, row)

    def test_formulas_that_do_not_fit(self):
        table = Table(PARTED, [{"shop": 1, "date": 1, "price": 1, "paid": 1}] * 2)
        for row in [0, 2, -1]:
            for function in [greatest, least]:
                with self.assertRaises(UnknownSort) as caught:
                    function(table, row_number("town") + row_number("best") + total("nope", "day"), row)
                self.assertEqual(caught.exception.name, "best")
                with self.assertRaises(UnknownColumn) as caught:
                    function(table, total("nope", "day") + count_of("day", ties(), wanted=["gone"]), row)
                self.assertEqual(caught.exception.name, "gone")


class Again(Checks):
    def test_again(self):
        rows = random_rows(random.Random(3), THREE_SORTS, 5, 1)
        table = Table(THREE_SORTS, rows)
        formula = running("price", "day") + row_number("town") - moving("cost", "best", 1, 0) + count_of("day", every())
        for function in [greatest, least]:
            for row in range(5):
                found, again = function(table, formula, row), function(table, formula, row)
                self.assertTrue(found == again)
                self.assertEqual(found.answer, again.answer)
                self.assertTrue(found.lay == again.lay)
        self.assertTrue(table == Table(THREE_SORTS, rows))

    def test_formulas_without_terms(self):
        table = Table(ONE_SORT, [{"date": 1, "price": 2}] * 3)
        self.check(table, number(-4), 1, -4, -4)


if __name__ == "__main__":
    unittest.main()
