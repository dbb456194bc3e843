"""Lays: a table with a list of its rows for each sort, and their numbers."""

from math import factorial

from windowrows.errors import BadLay, BadNumber, NotPeers, UnknownSort
from windowrows.lines import Line, standing
from windowrows.tables import is_plain_integer


class Lay:
    """A table and, for each sort, the list of all row numbers in its order.

    lines has the Line of each sort under its name.
    """

    def __init__(self, table, orders):
        self.table = table
        self.lines = {sort.name: _line(sort, table.rows, orders) for sort in table.scheme.sorts}

    def order(self, sort):
        """Return the list of a sort."""
        return list(self.line_of(sort).row_at)

    def orders(self):
        """Return the lists of all sorts, under their names."""
        return {sort: self.order(sort) for sort in self.lines}

    def line_of(self, sort):
        """Return the Line of a sort."""
        if sort not in self.lines:
            raise UnknownSort(sort)
        return self.lines[sort]

    def offset(self, sort, row, other):
        """Return the offset of the other row as seen from row, or None between parts."""
        line = self.line_of(sort)
        self.table.check_number(row)
        self.table.check_number(other)
        return line.offset(row, other)

    def exchanges(self):
        """Return the list of the triples (sort, row, other) of peers next to each other."""
        return [(sort, row, other) for sort in self.lines for row, other in self.lines[sort].neighbours()]

    def exchanged(self, sort, row, other):
        """Return the lay in which these two rows have changed places."""
        line = self.line_of(sort)
        self.table.check_number(row)
        self.table.check_number(other)
        neighbours = line.neighbours()
        if (row, other) not in neighbours and (other, row) not in neighbours:
            raise NotPeers(row, other)
        orders = self.orders()
        orders[sort][line.place_of[row]] = other
        orders[sort][line.place_of[other]] = row
        return Lay(self.table, orders)

    def __eq__(self, other):
        return isinstance(other, Lay) and self.table == other.table and self.orders() == other.orders()


def first_lay(table):
    """Return the lay in which the rows of every group are in the order of their numbers."""
    return Lay(table, {sort.name: _first_order(sort, table.rows) for sort in table.scheme.sorts})


def lay_count(table):
    """Return the number of lays of a table."""
    lay = first_lay(table)
    count = 1
    for sort in table.scheme.sort_names():
        for peers in lay.line_of(sort).peer_lists():
            count = count * factorial(len(peers))
    return count


def lay_at(table, number):
    """Return the lay with this number, when all lays are in ascending order."""
    if not 0 <= number < lay_count(table):
        raise BadNumber(number)
    lay = first_lay(table)
    orders = {}
    higher = number
    # The last group of the last sort changes fastest.
    for sort in reversed(list(table.scheme.sort_names())):
        order = []
        for peers in reversed(list(lay.line_of(sort).peer_lists())):
            higher, rank = divmod(higher, factorial(len(peers)))
            order = _arranged(peers, rank) + order
        orders[sort] = order
    return Lay(table, orders)


def lay_number(lay):
    """Return the number of a lay, when all lays of its table are in ascending order."""
    number = 0
    for sort in lay.table.scheme.sort_names():
        for peers in lay.line_of(sort).peer_lists():
            number = number * factorial(len(peers)) + _rank(peers)
    return number


def _line(sort, rows, orders):
    """Return the Line of a sort whose list is in orders."""
    if sort.name not in orders or not _is_sorted(sort, rows, orders[sort.name]):
        raise BadLay(sort.name)
    return Line(sort, rows, orders[sort.name])


def _is_sorted(sort, rows, order):
    """Return whether a list has all row numbers in the order of a sort."""
    if not all([is_plain_integer(number) for number in order]) or sorted(order) != list(range(len(rows))):
        return False
    standings = [standing(sort, rows[number]) for number in order]
    return standings == sorted(standings)


def _first_order(sort, rows):
    return [number for place, number in sorted([(standing(sort, row), number) for number, row in enumerate(rows)])]


def _arranged(peers, rank):
    """Return the arrangement with this rank of row numbers that are in ascending order."""
    rest = list(peers)
    found = []
    lower = rank
    while rest:
        index, lower = divmod(lower, factorial(len(rest) - 1))
        found.append(rest.pop(index))
    return found


def _rank(peers):
    """Return the rank of an arrangement of row numbers, when all are in ascending order."""
    rank = 0
    for place, number in enumerate(peers):
        later = peers[place:]
        rank = rank * len(later) + len([other for other in later if other < number])
    return rank
