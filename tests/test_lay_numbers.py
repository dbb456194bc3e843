"""Promise 31: the first lay, the number of lays, and the numbers of lays."""

import itertools
import math
import random
import unittest

from table_samples import FALLING, ONE_SORT, PARTED, SCHEMES, THREE_SORTS, all_orders, groups_of, random_lay, sorts_of
from windowrows.errors import BadNumber
from windowrows.lays import Lay, first_lay, lay_at, lay_count, lay_number
from windowrows.tables import Table

TABLES = [
    random_lay(random.Random(31 + count), scheme, count, spread)[0].table
    for scheme in SCHEMES for count in range(5) for spread in [0, 1, 2]
]


def rows_of(table):
    return [table.record(number) for number in range(len(table))]


def lists_of(lay):
    return [lay.order(name) for name in lay.table.scheme.sort_names()]


def all_lists(table):
    """Return the lists of all lays of a table, in ascending order."""
    rows = rows_of(table)
    return [list(lists) for lists in itertools.product(*[all_orders(sort, rows) for sort in sorts_of(table.scheme)])]


def all_peers(scheme, count):
    return Table(scheme, [{column: 0 for column in scheme.columns()}] * count)


class FirstLay(unittest.TestCase):
    def test_by_the_definition(self):
        for table in TABLES:
            lay = first_lay(table)
            self.assertIsInstance(lay, Lay)
            self.assertTrue(lay.table == table)
            expected = [
                [number for group in groups_of(sort, rows_of(table)) for number in group]
                for sort in sorts_of(table.scheme)
            ]
            self.assertEqual(lists_of(lay), expected)

    def test_it_is_the_least(self):
        for table in TABLES:
            self.assertEqual(lists_of(first_lay(table)), all_lists(table)[0])
            self.assertTrue(first_lay(table) == lay_at(table, 0))

    def test_written_out(self):
        rows = [{"shop": shop, "points": points, "price": 0} for shop, points in [(1, 4), (0, 2), (0, 8), (1, 4), (0, 8)]]
        self.assertEqual(first_lay(Table(FALLING, rows)).order("best"), [2, 4, 1, 0, 3])


class Count(unittest.TestCase):
    def test_by_the_definition(self):
        for table in TABLES:
            self.assertEqual(lay_count(table), len(all_lists(table)))

    def test_many_peers(self):
        for scheme in SCHEMES:
            sorts = len(scheme.sort_names())
            for count in [0, 1, 2, 20, 60]:
                self.assertEqual(lay_count(all_peers(scheme, count)), math.factorial(count) ** sorts)

    def test_groups(self):
        rows = [{"date": number // 20, "price": 0} for number in range(60)]
        self.assertEqual(lay_count(Table(ONE_SORT, rows)), math.factorial(20) ** 3)
        rows = [{"date": number, "price": 0} for number in range(60)]
        self.assertEqual(lay_count(Table(ONE_SORT, rows)), 1)

    def test_parts(self):
        rows = [{"shop": number % 2, "date": 5, "price": 0, "paid": 0} for number in range(7)]
        self.assertEqual(lay_count(Table(PARTED, rows)), 24 * 6)

    def test_a_table_without_rows(self):
        for scheme in SCHEMES:
            table = Table(scheme, [])
            self.assertEqual(lay_count(table), 1)
            self.assertTrue(lay_at(table, 0) == first_lay(table))
            self.assertEqual(lay_number(first_lay(table)), 0)


class Numbers(unittest.TestCase):
    def test_all_lays_in_ascending_order(self):
        for table in TABLES:
            lists = all_lists(table)
            for number, expected in list(enumerate(lists))[::max(1, len(lists) // 200)]:
                lay = lay_at(table, number)
                self.assertTrue(lay.table == table)
                self.assertEqual(lists_of(lay), expected)
                self.assertEqual(lay_number(lay), number)

    def test_all_of_one_table(self):
        rows = [
            {**{column: 0 for column in THREE_SORTS.columns()}, "date": date, "points": points, "size": size}
            for date, points, size in [(0, 1, 0), (0, 0, 1), (1, 0, 0), (0, 1, 0)]
        ]
        table = Table(THREE_SORTS, rows)
        told = [lists_of(lay_at(table, number)) for number in range(lay_count(table))]
        self.assertEqual(told, all_lists(table))
        self.assertEqual(told, sorted(told))
        self.assertEqual(len(told), 6 * 4 * 6)

    def test_lays_that_callers_make(self):
        for table in TABLES:
            names = table.scheme.sort_names()
            lists = all_lists(table)
            for number, orders in list(enumerate(lists))[::max(1, len(lists) // 50)]:
                lay = Lay(table, dict(zip(names, orders)))
                self.assertEqual(lay_number(lay), number)

    def test_many_peers(self):
        dice = random.Random(60)
        for scheme in SCHEMES:
            table = all_peers(scheme, 60)
            count = lay_count(table)
            numbers = sorted([0, 1, count // 2, count - 2, count - 1, *[dice.randrange(count) for _ in range(10)]])
            lays = [lay_at(table, number) for number in numbers]
            self.assertEqual([lay_number(lay) for lay in lays], numbers)
            lists = [lists_of(lay) for lay in lays]
            self.assertEqual(lists, sorted(lists))
            self.assertEqual(lists[0], [list(range(60))] * len(scheme.sort_names()))
            self.assertEqual(lists[-1], [list(range(59, -1, -1))] * len(scheme.sort_names()))

    def test_the_last_sort_changes_first(self):
        table = all_peers(THREE_SORTS, 3)
        self.assertEqual(lists_of(lay_at(table, 1)), [[0, 1, 2], [0, 1, 2], [0, 2, 1]])
        self.assertEqual(lists_of(lay_at(table, 6)), [[0, 1, 2], [0, 2, 1], [0, 1, 2]])
        self.assertEqual(lists_of(lay_at(table, 36)), [[0, 2, 1], [0, 1, 2], [0, 1, 2]])
        self.assertEqual(lists_of(lay_at(table, 215)), [[2, 1, 0], [2, 1, 0], [2, 1, 0]])

    def test_numbers_that_do_not_exist(self):
        for table in [*TABLES, all_peers(THREE_SORTS, 60)]:
            count = lay_count(table)
            for number in [-1, -count, count, count + 1, count * count + 7, -10 ** 300]:
                with self.assertRaises(BadNumber) as caught:
                    lay_at(table, number)
                self.assertEqual(caught.exception.number, number)


class Arguments(unittest.TestCase):
    def test_tables_and_lays_stay_as_they_are(self):
        table = all_peers(THREE_SORTS, 4)
        lay = lay_at(table, 5000)
        lists = lists_of(lay)
        for _ in range(2):
            self.assertEqual(lay_number(lay), 5000)
            self.assertEqual(lay_count(table), 24 ** 3)
            self.assertTrue(lay_at(table, 5000) == lay)
            self.assertTrue(first_lay(table) == lay_at(table, 0))
        self.assertEqual(lists_of(lay), lists)
        self.assertTrue(table == all_peers(THREE_SORTS, 4))


if __name__ == "__main__":
    unittest.main()
