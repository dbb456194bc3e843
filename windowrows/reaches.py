"""Reaches: from where to where along a line the rows of a cell stand."""

from windowrows.cells import stretch_of
from windowrows.regions import UNITS


class Reach:
    """What each row of a line sees in a cell.

    Within a part the places, the groups and the keys never decrease along
    the line, so the rows whose offsets are in a cell are consecutive.
    """

    def __init__(self, line):
        self.numbers = {"rows": list(range(len(line.row_at))), "groups": line.group_at, "keys": line.key_at}
        self.starts, self.ends = _part_bounds(line.part_at)
        self.known = {}

    def spans(self, cell):
        """Return for each place (low, high): what is in the cell stands from low to before high.

        Nothing is in the cell if high is not greater than low.
        """
        stretches = [(unit, stretch_of(cell, unit)) for unit in UNITS]
        lows = [self._lows(unit, stretch.low) for unit, stretch in stretches]
        highs = [self._highs(unit, stretch.high) for unit, stretch in stretches]
        first = [max(three) for three in zip(*lows)]
        behind = [min(three) for three in zip(*highs)]
        return list(zip(first, behind))

    def _lows(self, unit, step):
        return self.starts if step is None else self._firsts(unit, step)

    def _highs(self, unit, step):
        return self.ends if step is None else self._firsts(unit, step + 1)

    def _firsts(self, unit, step):
        """Return for each place the first place of its part whose number is at least step greater.

        Where there is none, it is the place behind the part.
        """
        if (unit, step) not in self.known:
            self.known[(unit, step)] = _found_firsts(self.numbers[unit], self.starts, self.ends, step)
        return self.known[(unit, step)]


def _found_firsts(numbers, starts, ends, step):
    found = []
    first = 0
    for here, number in enumerate(numbers):
        # Within a part the numbers never decrease, so the first place that
        # was found for the row before is not too far on.
        first = max(first, starts[here])
        while first < ends[here] and numbers[first] < number + step:
            first += 1
        found.append(first)
    return found


def _part_bounds(part_at):
    """Return for each place the first place of its part, and the place behind its last one."""
    first = {}
    behind = {}
    for place, part in enumerate(part_at):
        first.setdefault(part, place)
        behind[part] = place + 1
    return [first[part] for part in part_at], [behind[part] for part in part_at]
