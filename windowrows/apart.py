"""Formulas that are alike, and smallest tables in which others differ."""

from windowrows.answers import answer
from windowrows.lays import first_lay
from windowrows.normals import normal_of
from windowrows.placing import empty_row, key_at, lay_with_order, order_outward
from windowrows.tables import Table
from windowrows.telling import telling_columns
from windowrows.ways import way_to


class Parting:
    """A row of a lay at which two formulas have different answers."""

    def __init__(self, lay, row, first_answer, second_answer):
        self.lay = lay
        self.row = row
        self.first_answer = first_answer
        self.second_answer = second_answer

    def __eq__(self, other):
        return (
            isinstance(other, Parting)
            and self.lay == other.lay
            and self.row == other.row
            and self.first_answer == other.first_answer
            and self.second_answer == other.second_answer
        )


def alike(scheme, first, second):
    """Return whether two formulas have the same answers at all rows of all lays."""
    return not _difference(scheme, first, second)


def fewest_rows_apart(scheme, first, second):
    """Return how many rows show that two formulas are not alike, or None."""
    difference = _difference(scheme, first, second)
    if difference.own_at:
        return 1
    if difference.others_at:
        return 2
    return min([weights.nearest() + 1 for weights in difference.turns_at.values()], default=None)


def parting(scheme, first, second):
    """Return a smallest lay and a row at which two formulas differ, or None if they are alike."""
    difference = _difference(scheme, first, second)
    if not difference:
        return None
    lay = _parting_lay(difference)
    return Parting(lay, 0, answer(lay, first, 0), answer(lay, second, 0))


def _difference(scheme, first, second):
    return normal_of(scheme, first) - normal_of(scheme, second)


def _parting_lay(difference):
    """Return a smallest lay in which a formula with this normal form is not 0 at row 0."""
    if difference.own_at:
        row = {**empty_row(difference.scheme), **telling_columns(difference.own_at)}
        return first_lay(Table(difference.scheme, [row]))
    if difference.others_at:
        return _two_row_lay(difference)
    return _turn_lay(difference)


def _two_row_lay(difference):
    """Return a lay in which the rows 0 and 1 share just the parts that show the difference."""
    scheme = difference.scheme
    parts_shown = [part for part, marks, column in difference.others_at]
    # Every two rows share the part of the sorts without a part column, so
    # these come first.
    shared = [part for part in (None, *scheme.part_columns) if part in parts_shown][0]
    entries = {
        (marks, column): worth
        for (part, marks, column), worth in difference.others_at.items() if part == shared
    }
    other = {**_next_row(scheme), **telling_columns(entries)}
    for part in scheme.part_columns:
        other[part] = int(part != shared)
    return first_lay(Table(scheme, [empty_row(scheme), other]))


def _next_row(scheme):
    """Return a row that lies at (1, 1, 1) in all sorts as seen from the empty row."""
    return {**empty_row(scheme), **{sort.key: key_at(sort, 1) for sort in scheme.sorts}}


def _turn_lay(difference):
    """Return a lay in which the last row is the nearest one to row 0 that shows the difference."""
    scheme = difference.scheme
    sort_name, offset = _nearest_turn(difference)
    entries = {
        (marks, column): weights.at(offset)
        for (sort, marks, column), weights in difference.turns_at.items()
        if sort == sort_name and weights.at(offset) != 0
    }
    side = -1 if offset.rows < 0 else 1
    heights = [0] + way_to(abs(offset.rows), abs(offset.groups), abs(offset.distance))
    # In the other sorts the rows between stand on the other side of row 0,
    # so that none of them is as far away as the nearest turn.
    between = {**empty_row(scheme), **{sort.key: key_at(sort, -1) for sort in scheme.sorts}}
    last = {**_next_row(scheme), **telling_columns(entries)}
    rows = [empty_row(scheme)] + [between] * (len(heights) - 2) + [last]
    sort = scheme.sort_named(sort_name)
    placed = [{**row, sort.key: key_at(sort, side * height)} for row, height in zip(rows, heights)]
    return lay_with_order(Table(scheme, placed), sort_name, order_outward(len(placed), side))


def _nearest_turn(difference):
    """Return (sort, offset): a nearest offset at which a turn is not 0."""
    offsets = [
        (sort, cell.nearest())
        for (sort, marks, column), weights in difference.turns_at.items() for cell, worth in weights.cells()
    ]
    return min(offsets, key=lambda found: abs(found[1].rows))
