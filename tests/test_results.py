"""Promise 2 for what functions return: equal results of repeated calls, and nothing of another kind is equal."""

import unittest

from table_samples import PARTED, THREE_SORTS
from windowrows.apart import parting
from windowrows.ceilings import ceiling
from windowrows.extremes import greatest, least
from windowrows.formulas import count_of, number
from windowrows.matching import best_matching
from windowrows.named import moving, own, rank_of, row_number, running, shifted, total
from windowrows.normals import normal_of
from windowrows.onetable import swing_in
from windowrows.plans import plan_for
from windowrows.regions import rows_between, ties
from windowrows.settled import swing
from windowrows.tables import Table

TABLE = Table(PARTED, [{"shop": 1, "date": 2, "price": price, "paid": 0} for price in [3, 5, 9]])
FORMULAS = [number(3), row_number("day"), running("price", "day"), shifted("price", "day", -2), rank_of("day") + 1]


def results():
    """Return lists of results that differ from one another, by calls that are made anew each time."""
    yield [plan_for(scheme, formula + more) for scheme in (PARTED, THREE_SORTS) for formula in FORMULAS for more in (0, 1)]
    yield [normal_of(scheme, formula + more) for scheme in (PARTED, THREE_SORTS) for formula in FORMULAS for more in (0, 1)]
    yield [
        parting(scheme, first, first + other)
        for scheme in (PARTED, THREE_SORTS) for first in (number(0), number(3))
        for other in (number(1), number(2), total("price", "day"), count_of("day", ties()), shifted("price", "day", 5))
    ]
    yield [
        swing(scheme, formula * factor)
        for scheme in (PARTED, THREE_SORTS) for factor in (1, 2)
        for formula in (row_number("day"), running("price", "day") * 5, shifted("price", "day", -2))
    ]
    yield [swing_in(TABLE, formula, row) for row in range(3) for formula in FORMULAS[1:4]]
    yield [
        ceiling(scheme, formula)
        for scheme in (PARTED, THREE_SORTS)
        for formula in (
            number(3), number(4), count_of("day", rows_between(-2, 2)), 3 - count_of("day", rows_between(-2, 2)),
            row_number("day"), 2 * row_number("day"), own("price", "day"), 3 * own("price", "day"),
            shifted("price", "day", 3), count_of("day", rows_between(4, None)),
        )
    ]
    yield [
        best_matching(weights) for weights in (
            [], [[1]], [[2]], [[1, 2], [3, 4]], [[2, 1], [3, 4]], [[5, 0], [0, 5]], [[0, 5], [5, 0]], [[5, 0], [0, 6]],
        )
    ]
    yield [function(TABLE, formula, 0) for function in (greatest, least) for formula in FORMULAS[1:4]] + [
        greatest(TABLE, moving("price", "day", 1, 1) * 10, 0), greatest(TABLE, number(2), 0), least(TABLE, number(50), 0),
    ]


class Results(unittest.TestCase):
    def test_equal_only_to_the_same(self):
        for first, second in zip(results(), results()):
            for at, one in enumerate(first):
                for other_at, other in enumerate(second):
                    self.assertIs(one == other, at == other_at, (one, at, other_at))
                    self.assertIs(one != other, at != other_at)

    def test_other_kinds(self):
        groups = list(results())
        for at, group in enumerate(groups):
            for other_at, others in enumerate(groups):
                if isinstance(group[0], type(others[0])):
                    continue
                self.assertFalse(group[0] == others[0])
                self.assertTrue(group[-1] != others[-1])
            for other in [None, 0, "", [], (), {}, False, group[0].__dict__]:
                self.assertFalse(group[0] == other)
                self.assertTrue(group[0] != other)


if __name__ == "__main__":
    unittest.main()
