"""Promise 27, promise 2 for tables, and the bounds of tables."""

import random
import unittest

from table_samples import ONE_SORT, PARTED, SCHEMES, THREE_SORTS, random_rows
from windowrows.errors import BadNumber, BadRow
from windowrows.schemes import Scheme, Sort
from windowrows.tables import Table

MOST = 10 ** 12


def row_of(scheme, **changes):
    row = {column: at for at, column in enumerate(scheme.columns(), 5)}
    row.update({mark: 1 for mark in scheme.mark_columns})
    row.update(changes)
    return row


def without(row, *columns):
    return {column: value for column, value in row.items() if column not in columns}


class Records(unittest.TestCase):
    def test_rows_have_numbers_in_the_given_order(self):
        dice = random.Random(27)
        for scheme in SCHEMES:
            for count in [0, 1, 2, 7]:
                rows = random_rows(dice, scheme, count)
                table = Table(scheme, rows)
                self.assertEqual(len(table), count)
                self.assertEqual([table.record(number) for number in range(count)], rows)
                self.assertTrue(table.scheme == scheme)

    def test_equal_rows_are_different_rows(self):
        row = row_of(PARTED)
        table = Table(PARTED, [row, row, dict(row)])
        self.assertEqual(len(table), 3)
        self.assertEqual([table.record(number) for number in range(3)], [row] * 3)

    def test_kinds(self):
        record = Table(PARTED, [row_of(PARTED)]).record(0)
        self.assertIs(type(record), dict)
        self.assertEqual({type(value) for value in record.values()}, {int})

    def test_numbers_that_do_not_exist(self):
        for count in [0, 1, 3]:
            table = Table(PARTED, [row_of(PARTED)] * count)
            for number in [count, count + 1, -1, -count, -count - 1, 10 ** 15]:
                if not 0 <= number < count:
                    with self.assertRaises(BadNumber) as caught:
                        table.record(number)
                    self.assertEqual(caught.exception.number, number)

    def test_without_rows(self):
        table = Table(THREE_SORTS, [])
        self.assertEqual(len(table), 0)
        self.assertTrue(table.scheme == THREE_SORTS)

    def test_sixty_rows_and_more(self):
        for count in [60, 75]:
            rows = random_rows(random.Random(count), THREE_SORTS, count)
            table = Table(THREE_SORTS, rows)
            self.assertEqual(len(table), count)
            self.assertEqual(table.record(count - 1), rows[-1])

    def test_keys_in_any_order(self):
        row = row_of(THREE_SORTS)
        turned = {column: row[column] for column in reversed(list(row))}
        self.assertEqual(Table(THREE_SORTS, [turned]).record(0), row)


class BadRows(unittest.TestCase):
    def check(self, scheme, rows, number, column):
        for _ in range(2):
            with self.assertRaises(BadRow) as caught:
                Table(scheme, rows)
            self.assertEqual((caught.exception.number, caught.exception.column), (number, column))

    def test_limits_of_marks(self):
        for value in [0, 1]:
            self.assertEqual(Table(PARTED, [row_of(PARTED, paid=value)]).record(0)["paid"], value)
        for value in [-1, 2, MOST, -MOST]:
            self.check(PARTED, [row_of(PARTED, paid=value)], 0, "paid")

    def test_limits_of_the_others(self):
        for column in ["shop", "town", "date", "points", "size", "price", "cost"]:
            for value in [MOST, -MOST, 0, 2, -1]:
                record = Table(THREE_SORTS, [row_of(THREE_SORTS, **{column: value})]).record(0)
                self.assertEqual(record[column], value)
            for value in [MOST + 1, -MOST - 1, 10 ** 30, -(10 ** 30)]:
                self.check(THREE_SORTS, [row_of(THREE_SORTS, **{column: value})], 0, column)

    def test_values_that_are_no_integers(self):
        for column in THREE_SORTS.columns():
            for value in [True, False, None, "1", "", "one", 1.0, [1], (0,)]:
                self.check(THREE_SORTS, [row_of(THREE_SORTS, **{column: value})], 0, column)

    def test_a_lacking_column(self):
        for column in THREE_SORTS.columns():
            self.check(THREE_SORTS, [without(row_of(THREE_SORTS), column)], 0, column)

    def test_the_first_column_in_the_order_of_the_scheme(self):
        columns = THREE_SORTS.columns()
        self.assertEqual(columns, [
            "shop", "town", "date", "points", "size", "price", "cost", "paid", "void", "late",
        ])
        for at, first in enumerate(columns):
            for second in columns[at + 1:]:
                row = row_of(THREE_SORTS)
                self.check(THREE_SORTS, [without(row, first, second)], 0, first)
                self.check(THREE_SORTS, [{**without(row, first), second: None}], 0, first)
                self.check(THREE_SORTS, [{**without(row, second), first: True}], 0, first)
                self.check(THREE_SORTS, [{**row, second: MOST + 1, first: MOST + 1}], 0, first)
                self.check(THREE_SORTS, [{second: MOST + 1, **without(row, second), first: "x"}], 0, first)

    def test_an_empty_dict(self):
        for scheme in SCHEMES:
            self.check(scheme, [{}], 0, scheme.columns()[0])

    def test_further_keys(self):
        row = row_of(PARTED)
        for keys, first in [
            (["extra"], "extra"), (["zebra", "apple"], "apple"), (["b", "a", "aa"], "a"), (["b", "Z", "a"], "Z"),
            (["a", ""], ""), (["rows"], "rows"), (["Date"], "Date"), (["cost"], "cost"), (["a b", "a"], "a"),
        ]:
            self.check(PARTED, [{**row, **{key: 1 for key in keys}}], 0, first)
            self.check(PARTED, [{**{key: None for key in keys}, **row}], 0, first)

    def test_a_bad_value_ahead_of_further_keys(self):
        row = row_of(PARTED, aaa=1)
        self.check(PARTED, [row], 0, "aaa")
        self.check(PARTED, [{**row, "paid": 2}], 0, "paid")
        self.check(PARTED, [without(row, "shop")], 0, "shop")
        self.check(PARTED, [{**row, "price": True}], 0, "price")

    def test_the_first_bad_row(self):
        good = row_of(PARTED)
        self.check(PARTED, [good, good, {**good, "paid": 2}], 2, "paid")
        self.check(PARTED, [good, {**good, "zzz": 2}, {**good, "shop": None}], 1, "zzz")
        self.check(PARTED, [good, {**good, "paid": 3}, {}, good], 1, "paid")
        self.check(PARTED, [{**good, "price": MOST + 1}, {}], 0, "price")
        self.check(PARTED, [good] * 60 + [{}], 60, "shop")

    def test_rows_of_another_scheme(self):
        self.check(ONE_SORT, [row_of(PARTED)], 0, "paid")
        self.check(PARTED, [row_of(ONE_SORT)], 0, "shop")


class Equality(unittest.TestCase):
    def test_equal(self):
        rows = [row_of(PARTED, price=3), row_of(PARTED, paid=0)]
        table = Table(PARTED, rows)
        turned = [{column: row[column] for column in reversed(list(row))} for row in rows]
        same_scheme = Scheme([Sort("day", "date", part="shop")], parts=["shop"], values=["price"], marks=["paid"])
        for other in [Table(PARTED, rows), Table(PARTED, turned), Table(same_scheme, rows), table]:
            self.assertIs(table == other, True)
            self.assertIs(table != other, False)
        self.assertIs(Table(PARTED, []) == Table(same_scheme, []), True)

    def test_unequal(self):
        first, second = row_of(PARTED, price=3), row_of(PARTED, paid=0)
        table = Table(PARTED, [first, second])
        for rows in [[second, first], [first], [first, second, second], [], [first, {**second, "price": 3}]]:
            self.assertIs(table == Table(PARTED, rows), False)
            self.assertIs(table != Table(PARTED, rows), True)

    def test_another_scheme(self):
        rising = Scheme([Sort("day", "date")], values=["price"])
        falling = Scheme([Sort("day", "date", descending=True)], values=["price"])
        rows = [{"date": 1, "price": 2}]
        self.assertIs(Table(rising, rows) == Table(falling, rows), False)
        self.assertIs(Table(rising, []) == Table(falling, []), False)

    def test_other_values(self):
        row = row_of(PARTED)
        table = Table(PARTED, [row])
        for other in [None, [row], row, 1, "table", PARTED, Table]:
            self.assertIs(table == other, False)
            self.assertIs(other == table, False)


class Copies(unittest.TestCase):
    def test_what_is_handed_over(self):
        rows = [row_of(PARTED), row_of(PARTED, price=1)]
        kept = [dict(row) for row in rows]
        table = Table(PARTED, rows)
        self.assertEqual(rows, kept)
        rows[0]["price"] = 99
        rows[1].clear()
        rows.append({})
        self.assertEqual(len(table), 2)
        self.assertEqual([table.record(0), table.record(1)], kept)
        self.assertTrue(table == Table(PARTED, kept))

    def test_what_is_told(self):
        row = row_of(PARTED)
        table = Table(PARTED, [row])
        told = table.record(0)
        told["price"] = 99
        del told["shop"]
        self.assertEqual(table.record(0), row)
        self.assertIsNot(table.record(0), table.record(0))

    def test_one_dict_for_several_rows(self):
        row = row_of(PARTED)
        table = Table(PARTED, [row, row])
        table.record(0)["price"] = 99
        row["price"] = 98
        self.assertEqual(table.record(1), row_of(PARTED))

    def test_errors_change_nothing(self):
        table = Table(PARTED, [row_of(PARTED)])
        rows = [{}]
        with self.assertRaises(BadRow):
            Table(PARTED, rows)
        with self.assertRaises(BadNumber):
            table.record(1)
        self.assertEqual(rows, [{}])
        self.assertTrue(table == Table(PARTED, [row_of(PARTED)]))


if __name__ == "__main__":
    unittest.main()
