"""Lays after a row is added, removed or replaced."""

from windowrows.lays import Lay
from windowrows.lines import standing
from windowrows.tables import Table


def with_row(lay, row):
    """Return the lay with one more row, which stands behind its peers in each list."""
    table = Table(lay.table.scheme, [*lay.table.rows, row])
    number = len(lay.table)
    return Lay(table, {
        sort.name: _placed(sort, table.rows, lay.order(sort.name), number) for sort in table.scheme.sorts
    })


def without_row(lay, number):
    """Return the lay without a row; the numbers of later rows are smaller by one."""
    lay.table.check_number(number)
    table = Table(lay.table.scheme, lay.table.rows[:number] + lay.table.rows[number + 1:])
    orders = lay.orders()
    return Lay(table, {
        sort: [other - int(other > number) for other in orders[sort] if other != number] for sort in orders
    })


def with_row_replaced(lay, number, row):
    """Return the lay with other contents of a row.

    Where its part or its key changes, the row stands behind its new peers.
    """
    lay.table.check_number(number)
    table = Table(lay.table.scheme, [*lay.table.rows[:number], row, *lay.table.rows[number + 1:]])
    return Lay(table, {
        sort.name: _moved(sort, lay, table, number) for sort in table.scheme.sorts
    })


def _moved(sort, lay, table, number):
    """Return the list of a sort after a row has got the contents that it has in table."""
    order = lay.order(sort.name)
    if standing(sort, lay.table.rows[number]) == standing(sort, table.rows[number]):
        return order
    return _placed(sort, table.rows, [other for other in order if other != number], number)


def _placed(sort, rows, order, number):
    """Return the list of a sort with a further row number behind its peers."""
    own = standing(sort, rows[number])
    place = len([other for other in order if standing(sort, rows[other]) <= own])
    return order[:place] + [number] + order[place:]
