"""Promise 32: tables that show an offset."""

import unittest

from table_samples import FALLING, ONE_SORT, PARTED, THREE_SORTS
from windowrows.errors import UnknownSort
from windowrows.lays import Lay
from windowrows.offsets import Offset, possible
from windowrows.schemes import Scheme, Sort
from windowrows.showing import showing

FAR = 10 ** 10
BARE = Scheme([Sort("best", "points", descending=True)])
SORTS = [
    (ONE_SORT, "day"), (PARTED, "day"), (FALLING, "best"), (BARE, "best"), (THREE_SORTS, "day"),
    (THREE_SORTS, "best"), (THREE_SORTS, "town"),
]
SMALL = [
    Offset(rows, groups, distance)
    for rows in range(-5, 6) for groups in range(-5, 6) for distance in range(-7, 8)
    if possible(rows, groups, distance)
]
GREAT = [
    Offset(sign * rows, sign * groups, sign * distance)
    for sign in (1, -1)
    for rows, groups, distance in [
        (1, 1, 1), (1, 1, FAR), (40, 0, 0), (40, 1, 1), (40, 1, FAR), (40, 40, 40), (40, 40, FAR), (40, 39, 41),
        (12, 12, 1000000000), (39, 20, 20), (41, 41, FAR + 1), (60, 2, 20000000000),
    ]
]


class Showing(unittest.TestCase):
    def check(self, scheme, sort, offset):
        found = showing(scheme, sort, offset)
        self.assertIs(type(found), tuple)
        lay, row, other = found
        self.assertIsInstance(lay, Lay)
        self.assertTrue(lay.table.scheme == scheme)
        self.assertEqual(len(lay.table), abs(offset.rows) + 1)
        self.assertEqual(len(lay.table), offset.fewest_rows())
        for number in (row, other):
            self.assertIs(type(number), int)
            self.assertIn(number, range(len(lay.table)))
        self.assertTrue(lay.offset(sort, row, other) == offset)

    def test_all_small_offsets(self):
        self.assertEqual({offset.zone for offset in SMALL}, {"past", "before", "self", "after", "future"})
        for scheme, sort in SORTS:
            for offset in SMALL:
                self.check(scheme, sort, offset)

    def test_great_offsets(self):
        for scheme, sort in SORTS:
            for offset in GREAT:
                self.check(scheme, sort, offset)

    def test_the_row_itself(self):
        for scheme, sort in SORTS:
            lay, row, other = showing(scheme, sort, Offset(0, 0, 0))
            self.assertEqual((len(lay.table), row, other), (1, 0, 0))

    def test_unknown_sorts(self):
        for scheme, name in [(ONE_SORT, "date"), (PARTED, "shop"), (BARE, "day"), (THREE_SORTS, ""), (PARTED, "Day")]:
            with self.assertRaises(UnknownSort) as caught:
                showing(scheme, name, Offset(1, 1, 1))
            self.assertEqual(caught.exception.name, name)

    def test_again(self):
        offset = Offset(3, 2, 9)
        first, second = showing(PARTED, "day", offset), showing(PARTED, "day", offset)
        self.assertTrue(first[0] == second[0])
        self.assertEqual(first[1:], second[1:])
        self.assertTrue(offset == Offset(3, 2, 9))


if __name__ == "__main__":
    unittest.main()
