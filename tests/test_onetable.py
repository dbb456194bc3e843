"""Promise 53: whether the answer at one row of one table depends on the order of peers."""

import random
import time
import unittest

from formula_models import all_lays, random_formula
from table_samples import ONE_SORT, PARTED, SCHEMES, THREE_SORTS, random_rows, random_terms, formula_with
from windowrows.answers import answer, answers
from windowrows.errors import BadNumber, UnknownColumn, UnknownSort
from windowrows.formulas import count_of, number, sum_of
from windowrows.lays import Lay, lay_count
from windowrows.named import moving, peer_count, rank_of, rest, row_number, running, shifted, total
from windowrows.onetable import settled_in, swing_in
from windowrows.regions import groups_between, keys_between, own_group, rows_between, ties
from windowrows.schemes import Scheme, Sort
from windowrows.settled import Swing
from windowrows.tables import Table

MANY_SORTS = Scheme(
    [Sort("day", "date"), Sort("best", "points", descending=True), Sort("town", "size")],
    values=["price", "cost"], marks=["paid"],
)
MOST_LAYS = 300


class Checks(unittest.TestCase):
    def check_settled(self, table, formula, row):
        self.assertIs(settled_in(table, formula, row), True)
        self.assertIsNone(swing_in(table, formula, row))

    def check_open(self, table, formula, row):
        self.assertIs(settled_in(table, formula, row), False)
        found = swing_in(table, formula, row)
        self.assertIsInstance(found, Swing)
        self.assertIsInstance(found.lay, Lay)
        self.assertTrue(found.lay.table == table)
        self.assertTrue(found.other_lay.table == table)
        self.assertIs(type(found.pair), tuple)
        first, second = found.pair
        self.assertTrue(found.other_lay == found.lay.exchanged(found.sort_name, first, second))
        self.assertEqual(found.row, row)
        self.assertEqual(found.first_answer, answer(found.lay, formula, row))
        self.assertEqual(found.second_answer, answer(found.other_lay, formula, row))
        self.assertNotEqual(found.first_answer, found.second_answer)

    def check_with_all_lays(self, table, formula):
        """Return how many rows swing."""
        found = [answers(lay, formula) for lay in all_lays(table)]
        swinging = 0
        for row in range(len(table)):
            if len({told[row] for told in found}) == 1:
                self.check_settled(table, formula, row)
            else:
                swinging += 1
                self.check_open(table, formula, row)
        return swinging


class WithAllLays(Checks):
    def test_random_tables(self):
        dice = random.Random(53)
        rows_seen = swinging = 0
        for at in range(150):
            scheme = [*SCHEMES, MANY_SORTS][at % 5]
            table = Table(scheme, random_rows(dice, scheme, dice.randrange(1, 6), dice.choice([0, 1, 2])))
            if lay_count(table) > MOST_LAYS:
                continue
            rows_seen += len(table)
            swinging += self.check_with_all_lays(table, random_formula(dice, scheme, 3)[0])
        self.assertGreater(swinging, rows_seen // 10)
        self.assertGreater(rows_seen - swinging, rows_seen // 5)

    def test_all_peers(self):
        dice = random.Random(54)
        for values in [[5, 5, 5, 5], [1, 2, 4, 8], [0, 0, 7, 0, 0], [3, 3, -3, -3], [4]]:
            table = Table(ONE_SORT, [{"date": 2, "price": value} for value in values])
            for formula in [
                running("price", "day"), row_number("day"), total("price", "day"), shifted("price", "day", 2),
                moving("price", "day", 1, 1), moving("price", "day", 3, 4), sum_of("price", "day", rows_between(3, None)),
                random_formula(dice, ONE_SORT)[0],
            ]:
                self.check_with_all_lays(table, formula)

    def test_groups_that_swing_for_others(self):
        # Other rows exchange places, not the row that is asked.
        for keys, window in [
            ([1, 2, 2, 2], rows_between(2, 2)), ([1, 1, 1, 2], rows_between(-2, -2)), ([1, 2, 2, 3, 3], rows_between(2, 3)),
            ([1, 1, 2, 3, 3], rows_between(-3, -2) & groups_between(-2, -1)),
        ]:
            for values in [[1, 2, 4, 8, 16], [1, 1, 1, 1, 1], [1, 5, 5, 2, 2]]:
                table = Table(ONE_SORT, [{"date": key, "price": value} for key, value in zip(keys, values)])
                self.check_with_all_lays(table, sum_of("price", "day", window))

    def test_parts(self):
        rows = [
            {"shop": shop, "date": 1, "price": price, "paid": paid}
            for shop, price, paid in [(0, 1, 1), (0, 2, 0), (1, 4, 1), (1, 4, 1), (2, 9, 0)]
        ]
        table = Table(PARTED, rows)
        self.check_open(table, running("price", "day"), 0)
        self.check_open(table, running("price", "day"), 1)
        self.check_open(table, running("price", "day"), 2)
        self.check_settled(table, running("price", "day"), 4)
        self.check_settled(table, shifted("price", "day", -1) + shifted("price", "day", 1), 2)
        self.check_settled(table, sum_of("price", "day", ties() & rows_between(-1, 1)), 0)
        self.check_with_all_lays(table, sum_of("price", "day", rows_between(None, 0), barred=["paid"]))


class OneRow(Checks):
    def setUp(self):
        rows = [
            {"shop": 0, "date": date, "price": price, "paid": paid}
            for date, price, paid in [(1, 10, 1), (2, 20, 1), (2, 20, 1), (2, 30, 0), (3, 40, 1)]
        ]
        self.table = Table(PARTED, rows)

    def test_the_same_row_with_and_without_a_difference(self):
        for row in [1, 2]:
            self.check_open(self.table, running("price", "day"), row)
            self.check_settled(self.table, rank_of("day"), row)
            self.check_settled(self.table, running("price", "day") + rest("price", "day"), row)
            self.check_open(self.table, row_number("day"), row)
        for row in [0, 4]:
            self.check_settled(self.table, running("price", "day"), row)
            self.check_settled(self.table, row_number("day"), row)
        self.check_open(self.table, shifted("price", "day", 1), 0)
        self.check_settled(self.table, shifted("price", "day", 4), 0)
        self.check_open(self.table, shifted("price", "day", -1), 4)
        self.check_open(self.table, sum_of("price", "day", rows_between(1, 1), wanted=["paid"]), 0)
        self.check_settled(self.table, count_of("day", rows_between(1, 1)), 0)
        self.check_settled(self.table, moving("price", "day", 0, 3), 0)

    def test_open_formula_that_is_settled_in_this_table(self):
        table = Table(PARTED, [{"shop": 0, "date": date, "price": 3, "paid": 1} for date in [1, 1, 4]])
        self.check_settled(table, shifted("price", "day", -1), 2)
        self.check_settled(table, count_of("day", rows_between(-1, 1) & own_group()), 0)
        self.check_open(table, shifted("price", "day", -1), 0)
        alone = Table(PARTED, [{"shop": 0, "date": 1, "price": 3, "paid": 1}])
        self.check_settled(alone, running("price", "day") + row_number("day"), 0)

    def test_sorts_do_not_make_up_for_each_other(self):
        row = {"date": 1, "points": 1, "size": 1, "price": 5, "cost": 3, "paid": 0}
        table = Table(MANY_SORTS, [row, {**row, "price": 6}])
        formula = running("price", "day") - running("price", "best")
        self.check_open(table, formula, 0)
        self.check_settled(table, running("cost", "town") - shifted("cost", "town", -1), 0)
        self.check_settled(table, formula * 0 + peer_count("town"), 1)


class ManyPeers(Checks):
    def test_twelve_peers(self):
        dice = random.Random(12)
        rows = [
            {"date": 0, "points": 0, "size": 0, "price": dice.randrange(-99, 99), "cost": 7, "paid": dice.randrange(2)}
            for _ in range(12)
        ]
        table = Table(MANY_SORTS, rows)
        begun = time.process_time()
        for row in [0, 5, 11]:
            self.check_open(table, running("price", "day") + moving("price", "best", 3, 2), row)
            self.check_open(table, shifted("price", "town", -11), row)
            self.check_settled(table, shifted("price", "town", 12) + running("cost", "day") + rest("cost", "day"), row)
            self.check_settled(table, sum_of("price", "best", rows_between(None, -1)) + rest("price", "best"), row)
            self.check_open(table, count_of("day", rows_between(2, None), wanted=["paid"]), row)
            formula = formula_with(3, random_terms(dice, MANY_SORTS, 7))
            self.assertIs(settled_in(table, formula, row), swing_in(table, formula, row) is None)
        self.assertLess(time.process_time() - begun, 20)

    def test_twelve_rows_in_two_groups(self):
        rows = [{"date": at // 6, "price": 2 ** at} for at in range(12)]
        table = Table(ONE_SORT, rows)
        for row in [0, 7]:
            self.check_open(table, moving("price", "day", 2, 2), row)
            self.check_settled(table, total("price", "day") + rank_of("day"), row)
            self.check_settled(table, sum_of("price", "day", keys_between(1, 1)), row)
        self.check_open(table, sum_of("price", "day", rows_between(3, None) - own_group()), 0)
        self.check_settled(table, sum_of("price", "day", rows_between(3, None) - own_group()), 7)


class Errors(Checks):
    def test_numbers_that_do_not_exist(self):
        for count in [0, 1, 3]:
            table = Table(ONE_SORT, [{"date": 1, "price": 2}] * count)
            for row in [-1, count, count + 5, -count - 2]:
                for function in [settled_in, swing_in]:
                    for formula in [row_number("day"), number(4)]:
                        with self.assertRaises(BadNumber) as caught:
                            function(table, formula, row)
                        self.assertEqual(caught.exception.number, row)

    def test_formulas_that_do_not_fit(self):
        table = Table(PARTED, [{"shop": 1, "date": 1, "price": 1, "paid": 1}] * 2)
        for row in [0, 2, -1]:
            for function in [settled_in, swing_in]:
                with self.assertRaises(UnknownSort) as caught:
                    function(table, row_number("town") + row_number("best") + total("nope", "day"), row)
                self.assertEqual(caught.exception.name, "best")
                with self.assertRaises(UnknownColumn) as caught:
                    function(table, total("nope", "day") + count_of("day", ties(), wanted=["gone"]), row)
                self.assertEqual(caught.exception.name, "gone")


class Again(Checks):
    def test_again(self):
        rows = random_rows(random.Random(2), THREE_SORTS, 6, 1)
        table = Table(THREE_SORTS, rows)
        formula = running("price", "day") + row_number("town") + moving("cost", "best", 1, 0)
        for row in range(6):
            self.assertIs(settled_in(table, formula, row), settled_in(table, formula, row))
            found, again = swing_in(table, formula, row), swing_in(table, formula, row)
            if found is not None:
                self.assertTrue(found == again)
        self.assertTrue(table == Table(THREE_SORTS, rows))


if __name__ == "__main__":
    unittest.main()
