"""Offsets: where another row lies, as seen from a row that is asked."""

from windowrows.errors import BadOffset


def possible(rows, groups, distance):
    """Return whether the three integers form a possible offset."""
    return zone_of(rows, groups, distance) is not None


def zone_of(rows, groups, distance):
    """Return the zone of the three integers, or None if they are not possible."""
    if groups == 0 and distance == 0:
        return _zone_in_group(rows)
    if groups >= 1 and rows >= groups and distance >= groups:
        return "future"
    if groups <= -1 and rows <= groups and distance <= groups:
        return "past"
    return None


def _zone_in_group(rows):
    if rows == 0:
        return "self"
    return "after" if rows > 0 else "before"


class Offset:
    """A number of rows, of groups, and a distance in the key."""

    def __init__(self, rows, groups, distance):
        zone = zone_of(rows, groups, distance)
        if zone is None:
            raise BadOffset(rows, groups, distance)
        self.rows = rows
        self.groups = groups
        self.distance = distance
        self.zone = zone

    def fewest_rows(self):
        """Return the least number of rows of a table with this offset."""
        return abs(self.rows) + 1

    def __neg__(self):
        return Offset(-self.rows, -self.groups, -self.distance)

    def __add__(self, other):
        return Offset(self.rows + other.rows, self.groups + other.groups, self.distance + other.distance)

    def __eq__(self, other):
        return (
            isinstance(other, Offset)
            and self.rows == other.rows
            and self.groups == other.groups
            and self.distance == other.distance
        )
