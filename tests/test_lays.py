"""Promises 28 to 30, and promise 2 for lays."""

import itertools
import random
import unittest

from table_samples import (
    FALLING, ONE_SORT, PARTED, SCHEMES, THREE_SORTS, all_orders, differences, groups_of, place_in_sort, random_lay,
    random_orders, random_rows, sorts_of,
)
from windowrows.errors import BadLay, BadNumber, NotPeers, UnknownSort
from windowrows.lays import Lay
from windowrows.offsets import Offset
from windowrows.schemes import Scheme, Sort
from windowrows.tables import Table

SAMPLES = [
    (scheme, *random_lay(random.Random(28 + count), scheme, count, spread))
    for scheme in SCHEMES for count in [0, 1, 2, 3, 5, 8] for spread in [0, 1, 3]
]


def dated(*dates):
    return [{"date": date, "price": 0} for date in dates]


def parted(*pairs):
    return [{"shop": shop, "date": date, "price": 0, "paid": 0} for shop, date in pairs]


def pointed(*pairs):
    return [{"shop": shop, "points": points, "price": 0} for shop, points in pairs]


class Orders(unittest.TestCase):
    def accepted(self, scheme, rows, sort, order):
        lay = Lay(Table(scheme, rows), {sort: order})
        self.assertEqual(lay.order(sort), list(order))

    def refused(self, scheme, rows, sort, order):
        with self.assertRaises(BadLay) as caught:
            Lay(Table(scheme, rows), {sort: order})
        self.assertEqual(caught.exception.name, sort)

    def test_all_lists_of_a_rising_sort(self):
        rows = dated(5, 3, 5, 4)
        for order in itertools.permutations(range(4)):
            if list(order) in [[1, 3, 0, 2], [1, 3, 2, 0]]:
                self.accepted(ONE_SORT, rows, "day", list(order))
            else:
                self.refused(ONE_SORT, rows, "day", list(order))

    def test_all_lists_of_a_sort_with_parts(self):
        rows = parted((1, 2), (-1, 9), (1, 2), (-1, -4))
        for order in itertools.permutations(range(4)):
            if list(order) in [[3, 1, 0, 2], [3, 1, 2, 0]]:
                self.accepted(PARTED, rows, "day", list(order))
            else:
                self.refused(PARTED, rows, "day", list(order))

    def test_all_lists_of_a_falling_sort_with_parts(self):
        rows = pointed((0, 2), (0, 7), (-5, 2), (0, 7), (-5, 1))
        for order in itertools.permutations(range(5)):
            if list(order) in [[2, 4, 1, 3, 0], [2, 4, 3, 1, 0]]:
                self.accepted(FALLING, rows, "best", list(order))
            else:
                self.refused(FALLING, rows, "best", list(order))

    def test_peers_in_any_order(self):
        rows = dated(1, 1, 1, 1)
        for order in itertools.permutations(range(4)):
            self.accepted(ONE_SORT, rows, "day", list(order))

    def test_by_the_definition(self):
        dice = random.Random(29)
        for scheme in [ONE_SORT, PARTED, FALLING]:
            for count in range(6):
                rows = random_rows(dice, scheme, count, 1)
                sort, = sorts_of(scheme)
                right = all_orders(sort, rows)
                for order in itertools.permutations(range(count)):
                    if list(order) in right:
                        self.accepted(scheme, rows, sort.name, list(order))
                    else:
                        self.refused(scheme, rows, sort.name, list(order))

    def test_lists_that_are_not_of_all_rows(self):
        rows = dated(1, 1, 1)
        for order in [
            [], [0], [0, 1], [1, 2], [0, 1, 1], [0, 0, 1, 2], [0, 1, 2, 2], [0, 1, 2, 3], [0, 1, 3], [1, 2, 3],
            [-1, 0, 1], [0, 1, -1], [0, 1, 2, -1], [-3, -2, -1], [0, 1, 10 ** 20],
        ]:
            self.refused(ONE_SORT, rows, "day", order)

    def test_without_rows(self):
        for scheme in SCHEMES:
            lay = Lay(Table(scheme, []), {name: [] for name in scheme.sort_names()})
            for name in scheme.sort_names():
                self.assertEqual(lay.order(name), [])
        self.refused(ONE_SORT, [], "day", [0])

    def test_the_first_bad_sort(self):
        rows = random_rows(random.Random(3), THREE_SORTS, 4)
        table = Table(THREE_SORTS, rows)
        right = random_orders(random.Random(3), THREE_SORTS, rows)
        names = ["day", "best", "town"]
        for bad in itertools.product([False, True], repeat=3):
            orders = {
                name: right[name][:3] if is_bad else right[name] for name, is_bad in zip(names, bad)
            }
            lacking = {name: right[name] for name, is_bad in zip(names, bad) if not is_bad}
            if not any(bad):
                self.assertEqual([Lay(table, orders).order(name) for name in names], [right[name] for name in names])
                continue
            for handed in [orders, {name: orders[name] for name in reversed(names)}, lacking]:
                with self.assertRaises(BadLay) as caught:
                    Lay(table, handed)
                self.assertEqual(caught.exception.name, names[bad.index(True)])

    def test_a_list_of_another_sort(self):
        rows = random_rows(random.Random(6), THREE_SORTS, 6)
        orders = random_orders(random.Random(6), THREE_SORTS, rows)
        self.assertNotEqual(orders["day"], orders["best"])
        for wrong, name in [({"day": orders["best"]}, "day"), ({"best": orders["day"]}, "best")]:
            with self.assertRaises(BadLay) as caught:
                Lay(Table(THREE_SORTS, rows), {**orders, **wrong})
            self.assertEqual(caught.exception.name, name)

    def test_other_keys_have_no_effect(self):
        table = Table(ONE_SORT, dated(2, 1))
        lay = Lay(table, {"day": [1, 0], "date": [0, 1], "other": [5], "": None, "zzz": []})
        self.assertIs(lay == Lay(table, {"day": [1, 0]}), True)
        with self.assertRaises(BadLay) as caught:
            Lay(table, {"date": [1, 0]})
        self.assertEqual(caught.exception.name, "day")
        with self.assertRaises(BadLay):
            Lay(table, {})

    def test_order_and_table(self):
        for scheme, lay, rows, orders in SAMPLES:
            self.assertTrue(lay.table == Table(scheme, rows))
            for name in scheme.sort_names():
                self.assertEqual(lay.order(name), orders[name])
                self.assertIs(type(lay.order(name)), list)

    def test_unknown_sorts(self):
        lay = Lay(Table(PARTED, parted((0, 0))), {"day": [0]})
        for name in ["", "date", "shop", "Day", "best", "zzz"]:
            with self.assertRaises(UnknownSort) as caught:
                lay.order(name)
            self.assertEqual(caught.exception.name, name)


class Offsets(unittest.TestCase):
    def test_all_pairs_by_the_definition(self):
        for scheme, lay, rows, orders in SAMPLES:
            for sort in sorts_of(scheme):
                for row, other in itertools.product(range(len(rows)), repeat=2):
                    expected = differences(sort, rows, orders[sort.name], row, other)
                    found = lay.offset(sort.name, row, other)
                    if expected is None:
                        self.assertIsNone(found)
                    else:
                        self.assertIsInstance(found, Offset)
                        self.assertEqual((found.rows, found.groups, found.distance), expected)

    def test_written_out(self):
        rows = parted((0, 7), (0, 3), (1, 3), (0, 7), (0, 12))
        lay = Lay(Table(PARTED, rows), {"day": [1, 3, 0, 4, 2]})
        for row, other, expected in [
            (1, 1, (0, 0, 0)), (1, 3, (1, 1, 4)), (1, 0, (2, 1, 4)), (1, 4, (3, 2, 9)), (3, 0, (1, 0, 0)),
            (0, 3, (-1, 0, 0)), (4, 0, (-1, -1, -5)), (4, 3, (-2, -1, -5)), (4, 1, (-3, -2, -9)),
        ]:
            self.assertTrue(lay.offset("day", row, other) == Offset(*expected))
        for other in [0, 1, 3, 4]:
            self.assertIsNone(lay.offset("day", 2, other))
            self.assertIsNone(lay.offset("day", other, 2))
        self.assertTrue(lay.offset("day", 2, 2) == Offset(0, 0, 0))

    def test_a_falling_sort(self):
        rows = pointed((0, 7), (0, 3), (0, 12))
        lay = Lay(Table(FALLING, rows), {"best": [2, 0, 1]})
        self.assertTrue(lay.offset("best", 2, 1) == Offset(2, 2, 9))
        self.assertTrue(lay.offset("best", 0, 2) == Offset(-1, -1, -5))

    def test_the_same_key_in_other_parts(self):
        rows = pointed((1, 5), (0, 5), (1, 5))
        lay = Lay(Table(FALLING, rows), {"best": [1, 2, 0]})
        self.assertIsNone(lay.offset("best", 1, 2))
        self.assertTrue(lay.offset("best", 2, 0) == Offset(1, 0, 0))

    def test_other_columns_do_not_matter(self):
        rows = parted((0, 1), (0, 1))
        rows[1].update(price=7, paid=1)
        self.assertTrue(Lay(Table(PARTED, rows), {"day": [1, 0]}).offset("day", 0, 1) == Offset(-1, 0, 0))

    def test_great_keys(self):
        rows = dated(-10 ** 12, 10 ** 12)
        lay = Lay(Table(ONE_SORT, rows), {"day": [0, 1]})
        self.assertTrue(lay.offset("day", 0, 1) == Offset(1, 1, 2 * 10 ** 12))

    def test_errors_in_their_order(self):
        lay = Lay(Table(PARTED, parted((0, 0), (1, 0))), {"day": [0, 1]})
        for row, other in itertools.product([-1, 0, 1, 2, 99], repeat=2):
            with self.assertRaises(UnknownSort) as caught:
                lay.offset("date", row, other)
            self.assertEqual(caught.exception.name, "date")
            bad = [number for number in (row, other) if number not in (0, 1)]
            if bad:
                with self.assertRaises(BadNumber) as caught:
                    lay.offset("day", row, other)
                self.assertEqual(caught.exception.number, bad[0])
            else:
                self.assertIs(lay.offset("day", row, other) is None, row != other)

    def test_numbers_in_a_table_without_rows(self):
        lay = Lay(Table(ONE_SORT, []), {"day": []})
        with self.assertRaises(BadNumber) as caught:
            lay.offset("day", 0, 1)
        self.assertEqual(caught.exception.number, 0)


class Equality(unittest.TestCase):
    def test_equal(self):
        for scheme, lay, rows, orders in SAMPLES:
            for other in [Lay(Table(scheme, rows), orders), Lay(lay.table, orders), lay]:
                self.assertIs(lay == other, True)
                self.assertIs(lay != other, False)

    def test_other_lists(self):
        table = Table(ONE_SORT, dated(1, 1))
        self.assertIs(Lay(table, {"day": [0, 1]}) == Lay(table, {"day": [1, 0]}), False)
        self.assertIs(Lay(table, {"day": [0, 1]}) != Lay(table, {"day": [1, 0]}), True)

    def test_each_list_counts(self):
        rows = [{column: 0 for column in THREE_SORTS.columns()}] * 2
        table = Table(THREE_SORTS, rows)
        orders = {"day": [0, 1], "best": [0, 1], "town": [0, 1]}
        for name in orders:
            self.assertIs(Lay(table, orders) == Lay(table, {**orders, name: [1, 0]}), False)

    def test_other_tables(self):
        orders = {"day": [0, 1]}
        first = Lay(Table(ONE_SORT, dated(1, 2)), orders)
        self.assertIs(first == Lay(Table(ONE_SORT, dated(1, 3)), orders), False)
        self.assertIs(first == Lay(Table(ONE_SORT, dated(1, 2, 3)), {"day": [0, 1, 2]}), False)
        other = Scheme([Sort("day", "date", part=None)], values=["price"], marks=["paid"])
        rows = [{**row, "paid": 0} for row in dated(1, 2)]
        self.assertIs(first == Lay(Table(other, rows), orders), False)

    def test_other_values(self):
        lay = Lay(Table(ONE_SORT, dated(1)), {"day": [0]})
        for other in [None, [0], {"day": [0]}, lay.table, "lay", 0, Lay]:
            self.assertIs(lay == other, False)
            self.assertIs(other == lay, False)


class Exchanges(unittest.TestCase):
    def expected(self, scheme, rows, orders):
        return [
            (sort.name, row, other)
            for sort in sorts_of(scheme)
            for row, other in zip(orders[sort.name], orders[sort.name][1:])
            if place_in_sort(sort, rows[row]) == place_in_sort(sort, rows[other])
        ]

    def test_all_in_their_order(self):
        for scheme, lay, rows, orders in SAMPLES:
            told = lay.exchanges()
            self.assertEqual(told, self.expected(scheme, rows, orders))
            self.assertIs(type(told), list)
            self.assertTrue(all(type(triple) is tuple for triple in told))

    def test_written_out(self):
        rows = [
            {"shop": 0, "town": 0, "date": date, "points": points, "size": 0, "price": 0, "cost": 0, "paid": 0,
             "void": 0, "late": 0}
            for date, points in [(1, 4), (1, 5), (2, 4), (1, 4)]
        ]
        lay = Lay(Table(THREE_SORTS, rows), {"town": [2, 0, 3, 1], "best": [1, 2, 3, 0], "day": [3, 0, 1, 2]})
        self.assertEqual(lay.exchanges(), [
            ("day", 3, 0), ("day", 0, 1), ("best", 2, 3), ("best", 3, 0), ("town", 2, 0), ("town", 0, 3),
            ("town", 3, 1),
        ])

    def test_peers_of_unlike_parts_are_none(self):
        lay = Lay(Table(PARTED, parted((0, 1), (1, 1), (1, 1))), {"day": [0, 2, 1]})
        self.assertEqual(lay.exchanges(), [("day", 2, 1)])

    def test_every_pair_of_every_sort(self):
        for scheme, lay, rows, orders in SAMPLES:
            triples = self.expected(scheme, rows, orders)
            for name in scheme.sort_names():
                for row, other in itertools.product(range(len(rows)), repeat=2):
                    if (name, row, other) in triples or (name, other, row) in triples:
                        turned = [{row: other, other: row}.get(number, number) for number in orders[name]]
                        found = lay.exchanged(name, row, other)
                        self.assertTrue(found == Lay(Table(scheme, rows), {**orders, name: turned}))
                        self.assertTrue(found.exchanged(name, other, row) == lay)
                    else:
                        with self.assertRaises(NotPeers) as caught:
                            lay.exchanged(name, row, other)
                        self.assertEqual((caught.exception.row, caught.exception.other), (row, other))

    def test_the_lay_stays_as_it_was(self):
        for scheme, lay, rows, orders in SAMPLES:
            for triple in lay.exchanges():
                lay.exchanged(*triple)
            self.assertEqual([lay.order(name) for name in orders], list(orders.values()))
            self.assertTrue(lay.table == Table(scheme, rows))

    def test_the_table_stays(self):
        for scheme, lay, rows, _ in SAMPLES:
            for triple in lay.exchanges():
                self.assertTrue(lay.exchanged(*triple).table == lay.table)

    def test_rows_that_are_no_neighbours(self):
        lay = Lay(Table(ONE_SORT, dated(1, 1, 1, 2)), {"day": [2, 0, 1, 3]})
        self.assertEqual(lay.exchanges(), [("day", 2, 0), ("day", 0, 1)])
        for row, other in [(2, 1), (1, 2), (1, 3), (3, 1), (0, 0), (3, 3), (2, 3)]:
            with self.assertRaises(NotPeers) as caught:
                lay.exchanged("day", row, other)
            self.assertEqual((caught.exception.row, caught.exception.other), (row, other))

    def test_errors_in_their_order(self):
        lay = Lay(Table(PARTED, parted((0, 0), (1, 0))), {"day": [0, 1]})
        for row, other in itertools.product([-1, 0, 1, 2], repeat=2):
            with self.assertRaises(UnknownSort) as caught:
                lay.exchanged("shop", row, other)
            self.assertEqual(caught.exception.name, "shop")
            bad = [number for number in (row, other) if number not in (0, 1)]
            if bad:
                with self.assertRaises(BadNumber) as caught:
                    lay.exchanged("day", row, other)
                self.assertEqual(caught.exception.number, bad[0])
            else:
                with self.assertRaises(NotPeers) as caught:
                    lay.exchanged("day", row, other)
                self.assertEqual((caught.exception.row, caught.exception.other), (row, other))

    def test_exchanges_reach_every_lay(self):
        rows = [
            {**{column: 0 for column in THREE_SORTS.columns()}, "date": date, "points": points, "size": size}
            for date, points, size in [(0, 1, 0), (0, 0, 1), (0, 0, 2), (1, 0, 3)]
        ]
        sorts = sorts_of(THREE_SORTS)
        reached = [Lay(Table(THREE_SORTS, rows), random_orders(random.Random(1), THREE_SORTS, rows))]
        for lay in reached:
            for triple in lay.exchanges():
                following = lay.exchanged(*triple)
                if following not in reached:
                    reached.append(following)
        expected = itertools.product(*[all_orders(sort, rows) for sort in sorts])
        self.assertEqual(
            sorted([lay.order(sort.name) for sort in sorts] for lay in reached), [list(orders) for orders in expected],
        )


class Copies(unittest.TestCase):
    def test_what_is_handed_over(self):
        order = [1, 0]
        orders = {"day": order}
        lay = Lay(Table(ONE_SORT, dated(1, 1)), orders)
        order.reverse()
        order.append(5)
        orders["day"] = [0, 1]
        orders.clear()
        self.assertEqual(lay.order("day"), [1, 0])
        self.assertTrue(lay.offset("day", 0, 1) == Offset(-1, 0, 0))
        self.assertEqual(lay.exchanges(), [("day", 1, 0)])

    def test_arguments_are_not_modified(self):
        orders = {"day": [1, 0], "other": [3]}
        Lay(Table(ONE_SORT, dated(1, 1)), orders)
        self.assertEqual(orders, {"day": [1, 0], "other": [3]})

    def test_what_is_told(self):
        lay = Lay(Table(ONE_SORT, dated(1, 1)), {"day": [1, 0]})
        lay.order("day").clear()
        lay.exchanges().clear()
        self.assertEqual(lay.order("day"), [1, 0])
        self.assertEqual(lay.exchanges(), [("day", 1, 0)])
        self.assertIsNot(lay.order("day"), lay.order("day"))

    def test_errors_change_nothing(self):
        lay = Lay(Table(ONE_SORT, dated(1, 2)), {"day": [0, 1]})
        for call in [
            lambda: lay.exchanged("day", 0, 1), lambda: lay.exchanged("day", 0, 5), lambda: lay.order("no"),
            lambda: lay.offset("no", 0, 0),
        ]:
            with self.assertRaises((NotPeers, BadNumber, UnknownSort)):
                call()
        self.assertTrue(lay == Lay(Table(ONE_SORT, dated(1, 2)), {"day": [0, 1]}))


class Parts(unittest.TestCase):
    def test_groups_of_the_samples(self):
        """The samples have peers and several parts, so that the tests above say something."""
        sizes = [
            len(group) for scheme, _, rows, _ in SAMPLES for sort in sorts_of(scheme)
            for group in groups_of(sort, rows)
        ]
        self.assertGreater(max(sizes), 3)
        self.assertIn(1, sizes)


if __name__ == "__main__":
    unittest.main()
