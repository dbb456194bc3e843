"""Ceilings: the greatest answers of formulas over all tables without negative values."""

from windowrows.contributions import Contributions
from windowrows.errors import SeveralSorts
from windowrows.formulas import check
from windowrows.lays import Lay
from windowrows.moves import with_row, with_row_replaced
from windowrows.offsets import Offset
from windowrows.placing import empty_row, key_at, lay_with_order
from windowrows.tables import Table
from windowrows.ways import best_way, way_to


class Ceiling:
    """The greatest answer with a lay that has it at a row, or how to raise the answer there."""

    def __init__(self, most, sort_name, lay, pump_row, pump_column, gain):
        self.most = most
        self.sort_name = sort_name
        self.lay = lay
        self.row = 0
        self.pump_row = pump_row
        self.pump_column = pump_column
        self.gain = gain

    def pumped(self, times):
        """Return the lay in which the answer is raised so many times."""
        if self.pump_column is None:
            return self.lay
        row = self.lay.table.record(self.pump_row)
        if self.pump_column != "":
            row[self.pump_column] += times
            return with_row_replaced(self.lay, self.pump_row, row)
        is_first = self.lay.order(self.sort_name)[0] == self.pump_row
        lay = self.lay
        for _ in range(times):
            lay = _with_outer_row(lay, self.sort_name, row, is_first)
        return lay

    def __eq__(self, other):
        return (
            isinstance(other, Ceiling)
            and self.most == other.most
            and self.lay == other.lay
            and self.row == other.row
            and self.pump_row == other.pump_row
            and self.pump_column == other.pump_column
            and self.gain == other.gain
        )


def ceiling(scheme, formula):
    """Return the ceiling of a formula."""
    check(scheme, formula)
    sort = _sort_of(scheme, formula)
    contributions = Contributions(formula)
    rising_value = contributions.rising_value()
    if rising_value is not None:
        return _raised_by_value(scheme, sort, contributions, rising_value)
    rising_offset = contributions.rising_offset()
    if rising_offset is not None:
        return _raised_by_rows(scheme, sort, contributions, rising_offset)
    return _reached(scheme, sort, contributions, formula.constant)


def never_above(scheme, first, second):
    """Return whether the first formula never has a greater answer than the second one."""
    check(scheme, first)
    check(scheme, second)
    most = most_of(scheme, first - second)
    return most is not None and most <= 0


def most_of(scheme, formula):
    """Return the greatest answer of a formula that fits the scheme, or None, without a lay for it."""
    _sort_of(scheme, formula)
    contributions = Contributions(formula)
    if contributions.rising_value() is not None or contributions.rising_offset() is not None:
        return None
    return _greatest(contributions, formula.constant, _best_ways(contributions))


def _sort_of(scheme, formula):
    """Return the sort of the terms, or the first one if there are no terms."""
    names = sorted(set([term.sort_name for term in formula.terms()]))
    if len(names) > 1:
        raise SeveralSorts()
    return scheme.sort_named(names[0]) if names else scheme.sorts[0]


def _raised_by_value(scheme, sort, contributions, rising):
    offset, marks, column = rising
    lay, pump_row = _outward_lay(scheme, sort, offset, marks)
    gain = contributions.valued[(marks, column)].at(offset)
    return Ceiling(None, sort.name, lay, pump_row, column, gain)


def _raised_by_rows(scheme, sort, contributions, offset):
    lay, pump_row = _outward_lay(scheme, sort, offset, contributions.best_marks(offset))
    return Ceiling(None, sort.name, lay, pump_row, "", contributions.top.at(offset))


def _reached(scheme, sort, contributions, constant):
    """Return the ceiling of a formula whose answers do not rise without end."""
    ways = _best_ways(contributions)
    past, future = [
        [
            (distance, contributions.best_marks(Offset(side * rows, side * groups, side * distance)))
            for rows, groups, distance in offsets
        ]
        for side, (total, offsets) in zip((-1, 1), ways)
    ]
    lay = _placed_lay(scheme, sort, contributions.best_marks(Offset(0, 0, 0)), past, future)
    return Ceiling(_greatest(contributions, constant, ways), sort.name, lay, None, None, 0)


def _best_ways(contributions):
    """Return tuples (sum, offsets) for the best way on the side before a row and on that behind it."""
    # Further away no row adds more than 0.
    return [best_way(contributions.top, side, contributions.last_end(side) - 1) for side in (-1, 1)]


def _greatest(contributions, constant, ways):
    return constant + contributions.top.at(Offset(0, 0, 0)) + sum([total for total, offsets in ways])


def _outward_lay(scheme, sort, offset, marks):
    """Return (lay, other), where other has these marks and lies at an offset as seen from row 0."""
    heights = way_to(abs(offset.rows), abs(offset.groups), abs(offset.distance))
    if not heights:
        return _placed_lay(scheme, sort, marks, [], []), 0
    outward = [(height, ()) for height in heights[:-1]] + [(heights[-1], marks)]
    if offset.rows < 0:
        return _placed_lay(scheme, sort, (), outward, []), len(outward)
    return _placed_lay(scheme, sort, (), [], outward), len(outward)


def _placed_lay(scheme, sort, own_marks, past, future):
    """Return a lay with row 0 and others on both sides of it, as lists (distance, marks), the nearest first."""
    placed = [(0, own_marks)] + future + [(-distance, marks) for distance, marks in past]
    empty = empty_row(scheme)
    table = Table(scheme, [
        {**empty, sort.key: key_at(sort, height), **{mark: 1 for mark in marks}} for height, marks in placed
    ])
    numbers = list(range(len(placed)))
    behind = len(future) + 1
    return lay_with_order(table, sort.name, numbers[behind:][::-1] + numbers[:behind])


def _with_outer_row(lay, sort_name, row, is_first):
    """Return the lay with one more row, which stands first or last in the list of the sort."""
    longer = with_row(lay, row)
    order = lay.order(sort_name)
    number = len(lay.table)
    placed = [number] + order if is_first else order + [number]
    return Lay(longer.table, {**longer.orders(), sort_name: placed})
