"""Showing an offset in a smallest table."""

from windowrows.placing import empty_row, key_at, lay_with_order, order_outward
from windowrows.tables import Table
from windowrows.ways import way_to


def showing(scheme, sort, offset):
    """Return (lay, row, other) where the other row lies at the offset as seen from row."""
    shown_sort = scheme.sort_named(sort)
    last = abs(offset.rows)
    side = -1 if offset.rows < 0 else 1
    heights = [0] + way_to(last, abs(offset.groups), abs(offset.distance))
    empty = empty_row(scheme)
    table = Table(scheme, [{**empty, shown_sort.key: key_at(shown_sort, side * height)} for height in heights])
    return lay_with_order(table, sort, order_outward(last + 1, side)), 0, last
