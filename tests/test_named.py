"""Promise 38: named formulas, and promise 2 for them."""

import random
import unittest

from table_samples import SCHEMES, groups_of, random_lay, sorts_of
from windowrows.answers import answers
from windowrows.errors import UnknownColumn, UnknownSort
from windowrows.formulas import Formula
from windowrows.named import (
    moving, own, part_count, peer_count, rank_of, rest, row_number, running, shifted, total,
)
from windowrows.offsets import Offset, possible
from windowrows.regions import every, groups_between, own_group, own_row, rows_between

LAYS = [
    (scheme, *random_lay(random.Random(count + 100 * spread), scheme, count, spread))
    for scheme in SCHEMES for count in [0, 1, 2, 6, 9, 16] for spread in [0, 1, 3]
]


class Terms(unittest.TestCase):
    def check(self, formula, column, window, constant=0):
        self.assertIsInstance(formula, Formula)
        self.assertEqual(formula.constant, constant)
        term, = formula.terms()
        self.assertEqual(term.factor, 1)
        self.assertEqual(term.column, column)
        self.assertEqual(term.sort_name, "day")
        self.assertEqual((term.wanted, term.barred), ((), ()))
        self.assertIs(term.window == window, True)

    def test_counts(self):
        self.check(row_number("day"), "", rows_between(None, 0))
        self.check(rank_of("day"), "", groups_between(None, -1), 1)
        self.check(peer_count("day"), "", own_group())
        self.check(part_count("day"), "", every())

    def test_sums(self):
        for column in ["price", "cost"]:
            self.check(running(column, "day"), column, rows_between(None, 0))
            self.check(own(column, "day"), column, own_row())
            self.check(rest(column, "day"), column, rows_between(1, None))
            self.check(total(column, "day"), column, every())

    def test_moving(self):
        for before in range(13):
            for after in range(13):
                self.check(moving("price", "day", before, after), "price", rows_between(-before, after))
        self.check(moving("price", "day", 0, 0), "price", own_row())

    def test_after_left_out_and_by_name(self):
        for before in [0, 1, 5, 12]:
            self.check(moving("price", "day", before), "price", rows_between(-before, 0))
            self.check(moving("price", "day", before, after=3), "price", rows_between(-before, 3))
            self.check(moving("price", "day", before=before, after=12), "price", rows_between(-before, 12))
            self.check(moving(column="price", sort="day", before=before), "price", rows_between(-before, 0))
            self.check(
                moving(after=0, before=before, sort="day", column="price"), "price", rows_between(-before, 0),
            )

    def test_shifted(self):
        for steps in range(-12, 13):
            self.check(shifted("price", "day", steps), "price", rows_between(steps, steps))
        self.check(shifted("price", "day", 0), "price", own_row())

    def test_windows_by_hand(self):
        for formula, inside in [
            (row_number("day"), lambda rows, groups: rows <= 0), (rank_of("day"), lambda rows, groups: groups < 0),
            (peer_count("day"), lambda rows, groups: groups == 0), (part_count("day"), lambda rows, groups: True),
            (running("price", "day"), lambda rows, groups: rows <= 0),
            (moving("price", "day", 2, 1), lambda rows, groups: -2 <= rows <= 1),
            (moving("price", "day", 3), lambda rows, groups: -3 <= rows <= 0),
            (shifted("price", "day", 2), lambda rows, groups: rows == 2),
            (shifted("price", "day", -3), lambda rows, groups: rows == -3),
            (own("price", "day"), lambda rows, groups: rows == 0),
            (rest("price", "day"), lambda rows, groups: rows > 0), (total("price", "day"), lambda rows, groups: True),
        ]:
            window = formula.terms()[0].window
            for rows in range(-5, 6):
                for groups in range(-5, 6):
                    for distance in range(-6, 7):
                        if possible(rows, groups, distance):
                            self.assertIs(Offset(rows, groups, distance) in window, inside(rows, groups))

    def test_names_are_not_checked(self):
        term, = total("Any", "").terms()
        self.assertEqual((term.column, term.sort_name), ("Any", ""))

    def test_again(self):
        self.assertTrue(moving("price", "day", 2) == moving("price", "day", 2))
        self.assertTrue(rank_of("day") == rank_of("day"))
        self.assertFalse(rank_of("day") == rank_of("best"))


class Walks(unittest.TestCase):
    """The answers, by walking along the list of one part."""

    def check(self, make, walked):
        """Compare the answers of make(sort, column) with walked(part, place, values, groups).

        part is the list of the row numbers of one part as they stand in the lay, place an index in it, values
        has the value of each row number, and groups the index of its group.
        """
        for scheme, lay, rows, orders in LAYS:
            for sort in sorts_of(scheme):
                for column in scheme.value_columns:
                    values = [row[column] for row in rows]
                    group_at = {
                        number: index for index, group in enumerate(groups_of(sort, rows)) for number in group
                    }
                    expected = {}
                    for part in self.parts(sort, rows, orders[sort.name]):
                        for place, number in enumerate(part):
                            expected[number] = walked(part, place, values, group_at)
                    found = answers(lay, make(sort.name, column))
                    self.assertEqual(found, [expected[number] for number in range(len(rows))])

    def parts(self, sort, rows, order):
        found = {}
        for number in order:
            found.setdefault(None if sort.part is None else rows[number][sort.part], []).append(number)
        return list(found.values())

    def test_row_number(self):
        self.check(lambda sort, column: row_number(sort), lambda part, place, values, groups: place + 1)

    def test_rank_of(self):
        self.check(
            lambda sort, column: rank_of(sort),
            lambda part, place, values, groups:
                1 + len([other for other in part if groups[other] < groups[part[place]]]),
        )

    def test_peer_count(self):
        self.check(
            lambda sort, column: peer_count(sort),
            lambda part, place, values, groups:
                len([other for other in part if groups[other] == groups[part[place]]]),
        )

    def test_part_count(self):
        self.check(lambda sort, column: part_count(sort), lambda part, place, values, groups: len(part))

    def test_running(self):
        self.check(
            lambda sort, column: running(column, sort),
            lambda part, place, values, groups: sum(values[other] for other in part[:place + 1]),
        )

    def test_moving(self):
        for before, after in [(0, 0), (1, 0), (0, 1), (2, 3), (12, 0), (0, 12), (12, 12)]:
            self.check(
                lambda sort, column: moving(column, sort, before, after),
                lambda part, place, values, groups:
                    sum(values[other] for other in part[max(0, place - before):place + after + 1]),
            )

    def test_moving_without_after(self):
        self.check(
            lambda sort, column: moving(column, sort, 2),
            lambda part, place, values, groups: sum(values[other] for other in part[max(0, place - 2):place + 1]),
        )

    def test_shifted(self):
        for steps in [-12, -3, -1, 0, 1, 2, 12]:
            self.check(
                lambda sort, column: shifted(column, sort, steps),
                lambda part, place, values, groups:
                    values[part[place + steps]] if 0 <= place + steps < len(part) else 0,
            )

    def test_own(self):
        self.check(
            lambda sort, column: own(column, sort), lambda part, place, values, groups: values[part[place]],
        )

    def test_rest(self):
        self.check(
            lambda sort, column: rest(column, sort),
            lambda part, place, values, groups: sum(values[other] for other in part[place + 1:]),
        )

    def test_total(self):
        self.check(
            lambda sort, column: total(column, sort),
            lambda part, place, values, groups: sum(values[other] for other in part),
        )

    def test_running_and_rest_are_the_total(self):
        for scheme, lay, _, _ in LAYS:
            for sort in scheme.sort_names():
                self.assertEqual(
                    answers(lay, running("price", sort) + rest("price", sort)), answers(lay, total("price", sort)),
                )

    def test_formulas_that_do_not_fit(self):
        for _, lay, _, _ in LAYS:
            with self.assertRaises(UnknownSort):
                answers(lay, row_number("zzz"))
            with self.assertRaises(UnknownColumn):
                answers(lay, total("zzz", lay.table.scheme.sort_names()[0]))


if __name__ == "__main__":
    unittest.main()
