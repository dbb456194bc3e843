"""Showing an offset in a smallest table."""

from windowrows.lays import first_lay
from windowrows.tables import Table


def showing(scheme, sort, offset):
    """Return (lay, row, other) where the other row lies at the offset as seen from row."""
    shown_sort = scheme.sort_named(sort)
    last = abs(offset.rows)
    heights = [_height(place, abs(offset.groups), abs(offset.distance)) for place in range(last + 1)]
    keys = [-height if shown_sort.descending else height for height in heights]
    empty = {column: 0 for column in scheme.columns()}
    # The first lay has the rows in the order of their numbers, because they
    # rise with the heights.
    lay = first_lay(Table(scheme, [{**empty, shown_sort.key: key} for key in keys]))
    return (lay, last, 0) if offset.rows < 0 else (lay, 0, last)


def _height(place, groups, distance):
    """Return how far the row at a place lies from the first one."""
    # The groups before the last one have one row each and lie one apart.
    return place if place < groups else distance
