"""Making rows, and the lists in which they stand."""

from windowrows.lays import Lay, first_lay


def empty_row(scheme):
    """Return the row that has 0 in all columns."""
    return {column: 0 for column in scheme.columns()}


def key_at(sort, height):
    """Return the key that lies this far behind the key 0 in a sort."""
    return -height if sort.descending else height


def order_outward(count, side):
    """Return the list of row numbers that go up from row 0, which is the first row or, for the side -1, the last."""
    order = list(range(count))
    return order if side > 0 else order[::-1]


def lay_with_order(table, sort, order):
    """Return the first lay of a table, but with this list for one sort."""
    return Lay(table, {**first_lay(table).orders(), sort: order})
