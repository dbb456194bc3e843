"""Rows whose marks and values make entries of components add up to something."""


def telling_columns(entries):
    """Return the columns that are not 0 in a row for which the entries do not add up to 0.

    The entries are integers that are not 0, by (marks, column).
    """
    marks, column = least_component(entries)
    found = {mark: 1 for mark in marks}
    if column != "":
        found[column] = 1
    return found


def least_component(entries):
    """Return the first (marks, column) of those with the fewest marks.

    A row that has just these marks has all the marks of no other entry than
    those with the same marks.
    """
    size, marks, column = min([(len(marks), marks, column) for marks, column in entries])
    return marks, column
