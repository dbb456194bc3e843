"""Tables: numbered rows that fit a scheme."""

from windowrows.errors import BadNumber, BadRow

MOST_IN_COLUMN = 10 ** 12


class Table:
    """Rows with the numbers 0, 1, 2 ..; rows has them as dicts."""

    def __init__(self, scheme, rows):
        limits = _limits(scheme)
        for number, row in enumerate(rows):
            column = _bad_column(limits, row)
            if column is not None:
                raise BadRow(number, column)
        self.scheme = scheme
        self.rows = [{column: row[column] for column in limits} for row in rows]

    def record(self, number):
        """Return the row with this number."""
        self.check_number(number)
        return dict(self.rows[number])

    def check_number(self, number):
        """Raise BadNumber if there is no row with this number."""
        if not 0 <= number < len(self.rows):
            raise BadNumber(number)

    def __len__(self):
        return len(self.rows)

    def __eq__(self, other):
        return isinstance(other, Table) and self.scheme == other.scheme and self.rows == other.rows


def is_plain_integer(value):
    """Return whether a value is an integer; True and False are none."""
    return isinstance(value, int) and not isinstance(value, bool)


def _limits(scheme):
    """Return the least and the greatest number of each column, in the order of the scheme."""
    return {
        column: (0, 1) if column in scheme.mark_columns else (-MOST_IN_COLUMN, MOST_IN_COLUMN)
        for column in scheme.columns()
    }


def _bad_column(limits, row):
    """Return the first column that makes the row a bad one, or None."""
    for column in limits:
        if column not in row or not is_plain_integer(row[column]):
            return column
        low, high = limits[column]
        if not low <= row[column] <= high:
            return column
    return min([key for key in row if key not in limits], default=None)
