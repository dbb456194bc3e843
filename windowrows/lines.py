"""Lines: the rows of a table in the list of one sort."""

from windowrows.offsets import Offset


def standing(sort, row):
    """Return (part, key) of a row: rows stand in ascending order of it, peers have the same.

    The key is negated if the sort is descending.
    """
    part = 0 if sort.part is None else row[sort.part]
    key = -row[sort.key] if sort.descending else row[sort.key]
    return part, key


class Line:
    """The row numbers in the list of one sort, and where they stand.

    row_at, part_at, group_at and key_at tell for each place the row number
    there, its part, the index of its group in the list, and the key of its
    standing. place_of tells for each row number its place.
    """

    def __init__(self, sort, rows, order):
        standings = [standing(sort, rows[number]) for number in order]
        self.row_at = list(order)
        self.part_at = [part for part, key in standings]
        self.key_at = [key for part, key in standings]
        self.group_at = _group_indexes(standings)
        self.place_of = _places(order)

    def offset(self, row, other):
        """Return the offset of the other row as seen from row, or None between parts."""
        here, there = self.place_of[row], self.place_of[other]
        if self.part_at[here] != self.part_at[there]:
            return None
        return Offset(there - here, self.group_at[there] - self.group_at[here], self.key_at[there] - self.key_at[here])

    def neighbours(self):
        """Return the list of the pairs of peers of which one stands directly before the other."""
        return [
            (self.row_at[place], self.row_at[place + 1])
            for place in range(len(self.row_at) - 1)
            if self.group_at[place] == self.group_at[place + 1]
        ]

    def peer_lists(self):
        """Return the list of the groups, each as the list of its row numbers."""
        found = []
        for place, number in enumerate(self.row_at):
            if self.group_at[place] == len(found):
                found.append([])
            found[-1].append(number)
        return found


def _group_indexes(standings):
    """Return for each place the index of its group in the list."""
    found = []
    for place, own in enumerate(standings):
        if place == 0:
            found.append(0)
        else:
            found.append(found[-1] + int(standings[place - 1] != own))
    return found


def _places(order):
    """Return for each row number its place."""
    found = [0] * len(order)
    for place, number in enumerate(order):
        found[number] = place
    return found
