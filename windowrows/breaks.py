"""Breaks: columns that order peers further."""

from windowrows.errors import UnknownSort
from windowrows.formulas import check
from windowrows.settled import Swing, row_sorts
from windowrows.swings import swing_lay, turns_by_sort


def keeps_breaks(lay, breaks):
    """Return whether peers ascend by their numbers in the breaks of each sort."""
    _check_breaks(lay.table.scheme, breaks)
    return all([_ascends(lay, sort, breaks[sort]) for sort in breaks])


def settled_with(facts, formula, breaks):
    """Return whether the lays that keep the breaks agree on all answers, where tables keep the facts."""
    return not _open_sorts(facts, formula, breaks)


def swing_with(facts, formula, breaks):
    """Return a swing of a table that keeps the facts, between lays that keep the breaks, or None."""
    names = _open_sorts(facts, formula, breaks)
    if not names:
        return None
    turns = turns_by_sort(formula)
    nearest = min(names, key=lambda name: turns[name])
    columns = _columns_with(facts.scheme, nearest, breaks.get(nearest, []))
    lay = swing_lay(facts.scheme, formula, nearest, facts.closure(*columns), breaks)
    return Swing(lay, nearest, (0, 1), 0, formula)


def fewest_breaks(facts, sort):
    """Return a smallest list of breaks by which the facts tell all peers apart, or None."""
    name = facts.scheme.sort_named(sort).name
    columns = facts.scheme.columns()
    for size in range(len(columns) + 1):
        for chosen in _choices(columns, size):
            if _has_no_twins(facts, name, chosen):
                return chosen
    return None


def breaks_for(facts, formula):
    """Return the fewest breaks of the sorts in which the formula looks at rows, or None."""
    found = {name: fewest_breaks(facts, name) for name in row_sorts(facts.scheme, formula)}
    return None if any([found[name] is None for name in found]) else found


def _check_breaks(scheme, breaks):
    unknown = [name for name in breaks if name not in scheme.sort_names()]
    if unknown:
        raise UnknownSort(min(unknown))
    for name in scheme.sort_names():
        scheme.check_columns(breaks.get(name, []))


def _ascends(lay, sort, columns):
    """Return whether no two peers next to each other stand in the wrong order."""
    rows = lay.table.rows
    return all([
        [rows[row][column] for column in columns] <= [rows[other][column] for column in columns]
        for row, other in lay.line_of(sort).neighbours()
    ])


def _open_sorts(facts, formula, breaks):
    """Return the list of the sorts in which the formula looks at rows and peers may be exchanged."""
    check(facts.scheme, formula)
    _check_breaks(facts.scheme, breaks)
    return [
        name for name in row_sorts(facts.scheme, formula)
        if not _has_no_twins(facts, name, breaks.get(name, []))
    ]


def _has_no_twins(facts, sort_name, breaks):
    """Return whether the facts let no two peers agree on these breaks."""
    columns = _columns_with(facts.scheme, sort_name, breaks)
    return facts.no_twins(*columns)


def _columns_with(scheme, sort_name, columns):
    """Return the part column of a sort, its key column and further ones."""
    sort = scheme.sort_named(sort_name)
    parts = [] if sort.part is None else [sort.part]
    return [*parts, sort.key, *columns]


def _choices(columns, size):
    """Return all lists of so many of the columns, in the order of the columns."""
    if size == 0:
        return [[]]
    return [
        [column] + rest
        for index, column in enumerate(columns) for rest in _choices(columns[index + 1:], size - 1)
    ]
