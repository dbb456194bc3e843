"""Named formulas: running answers that are asked for often."""

from windowrows.formulas import count_of, sum_of
from windowrows.regions import every, groups_between, own_group, own_row, rows_between


def row_number(sort):
    """Return how many rows of the part stand up to the row itself."""
    return count_of(sort, rows_between(None, 0))


def rank_of(sort):
    """Return one more than the number of rows in earlier groups of the part."""
    return 1 + count_of(sort, groups_between(None, -1))


def peer_count(sort):
    """Return the number of rows in the group."""
    return count_of(sort, own_group())


def part_count(sort):
    """Return the number of rows in the part."""
    return count_of(sort, every())


def running(column, sort):
    """Return the sum over the rows of the part up to the row itself."""
    return sum_of(column, sort, rows_between(None, 0))


def moving(column, sort, before, after=0):
    """Return the sum from so many rows before to so many rows after the row itself."""
    return sum_of(column, sort, rows_between(-before, after))


def shifted(column, sort, steps):
    """Return the value that stands so many rows further on, or 0 if there is no such row."""
    return sum_of(column, sort, rows_between(steps, steps))


def own(column, sort):
    """Return the value of the row itself."""
    return sum_of(column, sort, own_row())


def rest(column, sort):
    """Return the sum over the rows of the part after the row itself."""
    return sum_of(column, sort, rows_between(1, None))


def total(column, sort):
    """Return the sum over the part."""
    return sum_of(column, sort, every())
