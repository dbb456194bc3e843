"""How far a formula looks at rows, and smallest lays in which that shows."""

from windowrows.components import component_weights, components_in, worth
from windowrows.lays import Lay
from windowrows.lines import standing
from windowrows.placing import key_at, order_outward
from windowrows.tables import Table
from windowrows.telling import least_component
from windowrows.weights import after_exchange, turned_at
from windowrows.ways import way_to


def turns_by_sort(formula):
    """Return the least turn of its weight functions for each sort in which the formula looks at rows."""
    found = {}
    for (sort, marks, column), weights in component_weights(formula).items():
        turn = weights.turn()
        if turn is not None:
            found[sort] = min(turn, found.get(sort, turn))
    return found


def swing_lay(scheme, formula, sort_name, agreed, breaks):
    """Return a lay in which an exchange of the rows 0 and 1 in a sort changes the answer at row 0.

    It has as few rows as the formula allows in that sort. Rows of the same
    group agree on the agreed columns, to which the breaks of the sort belong,
    and on the marks, and rows of other groups on the part and the marks. The
    lists of the other sorts keep the breaks.
    """
    turning = _turning_offset(formula, sort_name)
    nearer = after_exchange(turning)
    changes = {}
    for (marks, column), weights in components_in(formula, sort_name).items():
        if weights.at(nearer) != weights.at(turning):
            changes[(marks, column)] = weights.at(nearer) - weights.at(turning)
    side = -1 if turning.rows < 0 else 1
    table = Table(scheme, _telling_rows(_rows_outward(scheme, sort_name, turning, agreed), changes))
    orders = {sort.name: _order_with_breaks(sort, table.rows, breaks.get(sort.name, [])) for sort in scheme.sorts}
    return Lay(table, {**orders, sort_name: order_outward(len(table), side)})


def _turning_offset(formula, sort_name):
    """Return a nearest offset at which a weight changes if the row that is asked is exchanged."""
    turning = [weights for weights in components_in(formula, sort_name).values() if weights.turn() is not None]
    return turned_at(min(turning, key=lambda weights: weights.turn()))


def _rows_outward(scheme, sort_name, turning, agreed):
    """Return the rows from the one that is asked, and its peer to exchange it with, to the turning offset.

    Numbers are equal only where they must be; the marks are 0.
    """
    sort = scheme.sort_named(sort_name)
    side = -1 if turning.rows < 0 else 1
    heights = [0, 0] + way_to(abs(turning.rows) - 1, abs(turning.groups), abs(turning.distance))
    rows = []
    for number, height in enumerate(heights):
        row = {column: height if column in agreed else number for column in scheme.columns()}
        row[sort.key] = key_at(sort, side * height)
        for column in scheme.mark_columns:
            row[column] = 0
        if sort.part is not None:
            row[sort.part] = 0
        rows.append(row)
    return rows


def _telling_rows(rows, changes):
    """Return the rows with marks and values for which the changes at the last row do not add up to 0."""
    marks_shown = least_component(changes)[0]
    marked = [{**row, **{mark: 1 for mark in marks_shown}} for row in rows]
    total = sum([change * worth(marked[-1], marks, column) for (marks, column), change in changes.items()])
    if total != 0:
        return marked
    # Then the weight of a value column changes too. One more in all rows
    # leaves equal what is equal.
    raised = max([column for marks, column in changes if marks == marks_shown])
    return [{**row, raised: row[raised] + 1} for row in marked]


def _order_with_breaks(sort, rows, columns):
    """Return the list of a sort in which peers ascend by the numbers in the columns."""
    places = [(standing(sort, row), [row[column] for column in columns], number) for number, row in enumerate(rows)]
    return [number for place, numbers, number in sorted(places)]
