"""What one row can add to an answer, where values are not negative."""

from windowrows.components import component_weights
from windowrows.offsets import Offset
from windowrows.regions import nothing, weights_of
from windowrows.weights import highest_weights, zones_on


class Contributions:
    """The weights of a formula over one sort, by the marks of the row that is seen.

    counted has, under each tuple of marks, the weight of a row with just
    these, and valued, under (marks, column), the weight of its values. top
    is the greatest of those in counted.
    """

    def __init__(self, formula):
        self.parts = component_weights(formula)
        marks_used = sorted(set([mark for sort, marks, column in self.parts for mark in marks]))
        columns = sorted(set([column for sort, marks, column in self.parts if column != ""]))
        marks_sets = _marks_sets(marks_used)
        self.counted = {marks: _sum_within(self.parts, marks, "") for marks in marks_sets}
        self.valued = {
            (marks, column): _sum_within(self.parts, marks, column) for marks in marks_sets for column in columns
        }
        self.top = _highest(list(self.counted.values()))

    def best_marks(self, offset):
        """Return the marks with which a row without values adds most at an offset."""
        return max(list(self.counted), key=lambda marks: self.counted[marks].at(offset))

    def last_end(self, side):
        """Return the largest essential end of rows on a side, or 1."""
        ends = [
            end for weights in self.parts.values() for zone in zones_on(side)
            for end in weights.by_zone[zone].row_ends()
        ]
        return max(ends, default=1)

    def rising_value(self):
        """Return (offset, marks, column) such that greater values of that row add more, or None."""
        for (marks, column), weights in self.valued.items():
            for cell, worth in weights.cells():
                if worth > 0:
                    return cell.nearest(), marks, column
        return None

    def rising_offset(self):
        """Return an offset at which, and from which on in its group, each row can add more than 0, or None."""
        for side in (-1, 1):
            for cell, worth in self.top.cells():
                if worth > 0 and cell.zone in zones_on(side) and None in (cell.rows.low, cell.rows.high):
                    nearest = cell.nearest()
                    rows = max(abs(nearest.rows), self.last_end(side))
                    return Offset(side * rows, nearest.groups, nearest.distance)
        return None


def _marks_sets(names):
    """Return all tuples of some of the marks, in their order."""
    found = [()]
    for name in names:
        found = found + [marks + (name,) for marks in found]
    return found


def _sum_within(parts, marks, column):
    """Return the sum of the weight functions of a column whose marks are all among these."""
    total = weights_of(nothing(), 0)
    for (sort, needed, name), weights in parts.items():
        if name == column and all([mark in marks for mark in needed]):
            total = total + weights
    return total


def _highest(functions):
    found = functions[0]
    for weights in functions[1:]:
        found = highest_weights(found, weights)
    return found
