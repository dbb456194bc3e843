"""Frames: windows in the usual form, and their order."""

from windowrows.cells import stretch_of
from windowrows.errors import BadFrame, TurnedStretch
from windowrows.regions import UNITS, nothing, own_group, own_row, region_between, ties
from windowrows.steps import ZONES
from windowrows.stretches import Stretch, turned

EXCLUSIONS = ("nothing", "current", "group", "ties")


class Frame:
    """The rows, groups or keys from start to end, without some of the peers."""

    def __init__(self, unit, start, end, *, without="nothing"):
        if unit not in UNITS:
            raise BadFrame(unit)
        if without not in EXCLUSIONS:
            raise BadFrame(without)
        if turned(start, end):
            raise TurnedStretch(start, end)
        self.unit = unit
        self.start = start
        self.end = end
        self.without = without

    def region(self):
        """Return the offsets in the frame."""
        return region_between(self.unit, self.start, self.end) - _excluded(self.without)

    def before(self, other):
        """Return whether this frame comes before the other one."""
        return _rank(self) < _rank(other)

    def __eq__(self, other):
        return (
            isinstance(other, Frame)
            and self.unit == other.unit
            and self.start == other.start
            and self.end == other.end
            and self.without == other.without
        )


def first_frame(region):
    """Return the first frame that has the region, or None."""
    cells = region.cells()
    # A frame has at most one cell in each zone.
    if len(cells) > len(ZONES):
        return None
    for without in EXCLUSIONS:
        for unit in UNITS:
            for start, end in _bounds(cells, unit):
                frame = Frame(unit, start, end, without=without)
                if frame.region() == region:
                    return frame
    return None


def _bounds(cells, unit):
    """Return the starts and ends of the frames to be tried, in their order."""
    stretches = [stretch_of(cell, unit) for cell in cells]
    ends = [end for stretch in stretches for end in (stretch.low, stretch.high) if end is not None]
    # A start or an end beyond 1 or -1 is an end of the cell in the zone past
    # or future, on the axis of the unit.
    numbers = sorted(set(ends + [-1, 0, 1]))
    # A frame that does not reach as far as a cell has another region.
    bounds = [(start, end) for start in [None, *numbers] for end in [*numbers, None] if not turned(start, end)]
    return [(start, end) for start, end in bounds if _covers(Stretch(start, end), stretches)]


def _covers(whole, stretches):
    return all([stretch.within(whole) for stretch in stretches])


def _excluded(without):
    if without == "current":
        return own_row()
    if without == "group":
        return own_group()
    return ties() if without == "ties" else nothing()


def _rank(frame):
    """Return a tuple that is less the earlier the frame comes."""
    start = (0, 0) if frame.start is None else (1, frame.start)
    end = (1, 0) if frame.end is None else (0, frame.end)
    return EXCLUSIONS.index(frame.without), UNITS.index(frame.unit), start, end
