"""Cells: a zone with a stretch for each of rows, groups and distance."""

from windowrows.offsets import Offset


class Cell:
    """The offsets of one zone whose numbers are in three stretches."""

    def __init__(self, zone, rows, groups, distance):
        self.zone = zone
        self.rows = rows
        self.groups = groups
        self.distance = distance

    def nearest(self):
        """Return the offset in the cell whose absolute values are least."""
        groups = least_size(self.groups)
        # A possible offset lies at least as many rows and keys away as groups.
        rows = max(groups, least_size(self.rows))
        distance = max(groups, least_size(self.distance))
        if self.zone in ("past", "before"):
            return Offset(-rows, -groups, -distance)
        return Offset(rows, groups, distance)

    def __contains__(self, offset):
        return (
            offset.zone == self.zone
            and offset.rows in self.rows
            and offset.groups in self.groups
            and offset.distance in self.distance
        )

    def __eq__(self, other):
        return (
            isinstance(other, Cell)
            and self.zone == other.zone
            and self.rows == other.rows
            and self.groups == other.groups
            and self.distance == other.distance
        )


def stretch_of(cell, unit):
    """Return the stretch of the rows, the groups or the keys (the distance)."""
    if unit == "rows":
        return cell.rows
    return cell.groups if unit == "groups" else cell.distance


def least_size(stretch):
    """Return the least absolute value of a member of the stretch."""
    if stretch.low is not None and stretch.low > 0:
        return stretch.low
    if stretch.high is not None and stretch.high < 0:
        return -stretch.high
    return 0
