"""Sorts, and schemes of sorts and columns."""

from windowrows.errors import BadScheme, UnknownColumn, UnknownSort
from windowrows.names import is_name


class Sort:
    """An order by a key column, within each part or in the whole table."""

    def __init__(self, name, key, *, part=None, descending=False):
        self.name = name
        self.key = key
        self.part = part
        self.descending = descending

    def __eq__(self, other):
        return (
            isinstance(other, Sort)
            and self.name == other.name
            and self.key == other.key
            and self.part == other.part
            and self.descending == other.descending
        )


class Scheme:
    """The sorts and the columns of a table."""

    def __init__(self, sorts, *, parts=(), values=(), marks=()):
        self.sorts = tuple(sorts)
        self.part_columns = tuple(parts)
        self.value_columns = tuple(values)
        self.mark_columns = tuple(marks)
        _check_names(self.sort_names() + self.columns())
        _check_different(self.sort_names())
        _check_different(self.columns())
        _check_parts(self.sorts, self.part_columns)

    def columns(self):
        """Return the list of the columns: of parts, keys, values and marks."""
        keys = [sort.key for sort in self.sorts]
        return [*self.part_columns, *keys, *self.value_columns, *self.mark_columns]

    def sort_names(self):
        """Return the list of the names of the sorts."""
        return [sort.name for sort in self.sorts]

    def sort_named(self, name):
        """Return the sort that has this name."""
        for sort in self.sorts:
            if sort.name == name:
                return sort
        raise UnknownSort(name)

    def check_columns(self, columns):
        """Raise UnknownColumn for the first name that is no column."""
        for column in columns:
            if column not in self.columns():
                raise UnknownColumn(column)

    def __eq__(self, other):
        return (
            isinstance(other, Scheme)
            and self.sorts == other.sorts
            and self.part_columns == other.part_columns
            and self.value_columns == other.value_columns
            and self.mark_columns == other.mark_columns
        )


def _check_names(words):
    for word in words:
        if not is_name(word):
            raise BadScheme(word)


def _check_different(names):
    for index, name in enumerate(names):
        if name in names[:index]:
            raise BadScheme(name)


def _check_parts(sorts, part_columns):
    for sort in sorts:
        if sort.part is not None and sort.part not in part_columns:
            raise BadScheme(sort.part)
