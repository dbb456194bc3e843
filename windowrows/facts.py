"""Facts: what no two rows of a table agree on, and which columns fix others."""

from windowrows.errors import BadFix, BadUnique, OtherScheme


class Facts:
    """Unique sets, as lists of columns, and fixes, as tuples (list of columns, column)."""

    def __init__(self, scheme, *, unique=(), fixes=()):
        self.scheme = scheme
        self.unique_sets = [list(columns) for columns in unique]
        self.fix_pairs = [(list(columns), column) for columns, column in fixes]
        for index, columns in enumerate(self.unique_sets):
            scheme.check_columns(columns)
            if not _tells_rows_apart(scheme, columns):
                raise BadUnique(index)
        for index, (columns, column) in enumerate(self.fix_pairs):
            scheme.check_columns(columns + [column])
            if not _tells_rows_apart(scheme, columns):
                raise BadFix(index)

    def closure(self, *columns):
        """Return the columns that these determine, in the order of the scheme."""
        fixed = [self.fix_pairs[index][1] for index in self.chain(*columns)]
        return [column for column in self.scheme.columns() if column in columns or column in fixed]

    def chain(self, *columns):
        """Return the indexes of fixes by which the closure is reached, one after the other."""
        self.scheme.check_columns(columns)
        known = list(columns)
        found = []
        index = self._next_fix(known)
        while index is not None:
            found.append(index)
            known.append(self.fix_pairs[index][1])
            index = self._next_fix(known)
        return found

    def no_twins(self, *columns):
        """Return whether the facts let no two rows agree on these columns."""
        known = self.closure(*columns)
        return any([_contains(known, unique) for unique in self.unique_sets])

    def kept_by(self, table):
        """Return whether a table keeps the facts."""
        if table.scheme != self.scheme:
            raise OtherScheme()
        unique_kept = [_are_different(table.rows, columns) for columns in self.unique_sets]
        fixes_kept = [_is_fixed(table.rows, columns, column) for columns, column in self.fix_pairs]
        return all(unique_kept + fixes_kept)

    def _next_fix(self, known):
        """Return the index of the first fix that adds a column to the known ones, or None."""
        for index, (columns, column) in enumerate(self.fix_pairs):
            if column not in known and _contains(known, columns):
                return index
        return None


def _tells_rows_apart(scheme, columns):
    """Return whether there is a key or a value column and no mark among the columns."""
    marks = [column for column in columns if column in scheme.mark_columns]
    others = [column for column in columns if column not in scheme.part_columns]
    return not marks and bool(others)


def _contains(known, columns):
    return all([column in known for column in columns])


def _numbers(row, columns):
    return tuple([row[column] for column in columns])


def _are_different(rows, columns):
    return len(set([_numbers(row, columns) for row in rows])) == len(rows)


def _is_fixed(rows, columns, column):
    """Return whether rows that agree on the columns agree on the further one."""
    fixed = {_numbers(row, columns): row[column] for row in rows}
    return all([fixed[_numbers(row, columns)] == row[column] for row in rows])
