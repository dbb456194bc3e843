"""Plans: answers by differences of running totals."""

from windowrows.components import component_weights, worth
from windowrows.errors import OtherScheme
from windowrows.formulas import check
from windowrows.reaches import Reach


class Plan:
    """A way to compute the answers of one formula at all rows of a lay.

    cells_of has, under keys (sort, marks, column), the list of the tuples
    (cell, weight) of the weight function of that component.
    """

    def __init__(self, scheme, constant, cells_of):
        self.scheme = scheme
        self.constant = constant
        self.cells_of = cells_of

    def __call__(self, lay):
        if lay.table.scheme != self.scheme:
            raise OtherScheme()
        found = [self.constant] * len(lay.table)
        reaches = {sort: Reach(lay.line_of(sort)) for sort in lay.lines}
        for (sort, marks, column), cells in self.cells_of.items():
            row_at = lay.line_of(sort).row_at
            worths = [worth(lay.table.rows[number], marks, column) for number in row_at]
            added = _added_along(reaches[sort], _running_totals(worths), cells)
            for place, number in enumerate(row_at):
                found[number] += added[place]
        return found

    def pieces(self):
        """Return the list of the pieces: tuples (sort, marks, column, cell, weight)."""
        return [
            (sort, marks, column, cell, weight)
            for (sort, marks, column), cells in self.cells_of.items()
            for cell, weight in cells
        ]

    def __eq__(self, other):
        return (
            isinstance(other, Plan)
            and self.scheme == other.scheme
            and self.constant == other.constant
            and self.cells_of == other.cells_of
        )


def plan_for(scheme, formula):
    """Return the plan for a formula on tables of a scheme."""
    check(scheme, formula)
    weights = component_weights(formula)
    return Plan(scheme, formula.constant, {key: weights[key].cells() for key in weights})


def _running_totals(worths):
    """Return the sum of the worths ahead of each place, and at the end of all."""
    found = [0]
    for added in worths:
        found.append(found[-1] + added)
    return found


def _added_along(reach, totals, cells):
    """Return for each place of a line what the cells add there, with their weights."""
    found = [0] * (len(totals) - 1)
    for cell, weight in cells:
        for place, (low, high) in enumerate(reach.spans(cell)):
            if low < high:
                found[place] += weight * (totals[high] - totals[low])
    return found
