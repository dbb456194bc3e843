"""Step functions on the offsets of one zone.

All numbers here are absolute values. The axes stand in the order groups,
keys (the distance), rows, so that sorted places are in the order of cells.
"""

from windowrows.cells import Cell
from windowrows.stretches import Stretch

ZONES = ("past", "before", "self", "after", "future")
AXES = ("groups", "keys", "rows")
KEYS = 1
ROWS = 2

# Where the first stretch of each axis begins. A stretch that begins at 0
# contains nothing else.
FIRST_STARTS = {
    "past": ((1,), (1,), (1,)),
    "before": ((0,), (0,), (1,)),
    "self": ((0,), (0,), (0,)),
    "after": ((0,), (0,), (1,)),
    "future": ((1,), (1,), (1,)),
}


class Steps:
    """The weights of one zone in the canonical form.

    starts tells for each axis where its stretches begin. A place is a tuple
    of the indexes of a stretch on each axis; worths has the weights that are
    not 0, by their places.
    """

    def __init__(self, starts, worths):
        self.starts = starts
        self.worths = worths

    def at(self, sizes):
        """Return the weight of an offset with these sizes on the axes."""
        return self.worths.get(_place_at(self.starts, sizes), 0)

    def cells(self, zone):
        """Return the list of the tuples (cell, weight) in this zone."""
        return [(_cell_at(zone, self.starts, place), self.worths[place]) for place in sorted(list(self.worths))]

    def form(self):
        """Return a tuple that is the same for equal functions only, as a key."""
        return self.starts, tuple(sorted(list(self.worths.items())))

    def row_ends(self):
        """Return the list of the essential ends of rows."""
        return list(self.starts[ROWS][1:])

    def key_starts(self):
        """Return the list of the least distances of the stretches of keys."""
        return list(self.starts[KEYS])

    def change_at(self, end):
        """Return (groups, distance) of two offsets whose weights differ, one with end - 1 rows and one with end.

        Return None if end is no essential end of rows.
        """
        groups, keys, rows = self.starts
        for group in groups:
            for key in keys:
                sizes = (group, max(group, key))
                if group < end and self.at((*sizes, end - 1)) != self.at((*sizes, end)):
                    return sizes
        return None

    def __eq__(self, other):
        return isinstance(other, Steps) and self.starts == other.starts and self.worths == other.worths


def even_steps(zone, worth):
    """Return the function that has the same weight in the whole zone."""
    starts = FIRST_STARTS[zone]
    return _reduced(starts, {place: worth for place in _places_in(starts)})


def steps_between(zone, axis, stretch):
    """Return the function that is 1 where the size on an axis is in a stretch."""
    first = FIRST_STARTS[zone][axis][0]
    if first == 0:
        return even_steps(zone, int(0 in stretch))
    inside = stretch.meet(Stretch(first, None))
    if inside is None:
        return even_steps(zone, 0)
    behind = [] if inside.high is None else [inside.high + 1]
    cut = tuple(sorted(set([first, inside.low] + behind)))
    starts = FIRST_STARTS[zone][:axis] + (cut,) + FIRST_STARTS[zone][axis + 1:]
    return _reduced(starts, {place: int(cut[place[axis]] in inside) for place in _places_in(starts)})


def added(first, second, factor):
    """Return first + second * factor."""
    starts = _common_starts(first, second)
    ones, others = _spread(first, starts), _spread(second, starts)
    return _reduced(starts, {place: ones[place] + others[place] * factor for place in ones})


def scaled(steps, factor):
    """Return steps * factor."""
    worths = _spread(steps, steps.starts)
    return _reduced(steps.starts, {place: worths[place] * factor for place in worths})


def joined(first, second, outcomes):
    """Return outcomes[a][b] where the weights of the two, 0 or 1, are a and b."""
    starts = _common_starts(first, second)
    ones, others = _spread(first, starts), _spread(second, starts)
    return _reduced(starts, {place: outcomes[ones[place]][others[place]] for place in ones})


def highest(first, second):
    """Return the greater one of the weights of the two."""
    starts = _common_starts(first, second)
    ones, others = _spread(first, starts), _spread(second, starts)
    return _reduced(starts, {place: max(ones[place], others[place]) for place in ones})


def support(steps):
    """Return the function that is 1 where the weight is not 0."""
    worths = _spread(steps, steps.starts)
    return _reduced(steps.starts, {place: int(worths[place] != 0) for place in worths})


def level(steps, worth):
    """Return the function that is 1 where the weight is this one."""
    worths = _spread(steps, steps.starts)
    return _reduced(steps.starts, {place: int(worths[place] == worth) for place in worths})


def _reduced(starts, worths):
    """Return the canonical form of the weights at all places of the starts."""
    kept = tuple([_essential(starts[axis], worths, axis) for axis in range(len(AXES))])
    found = {place: worths[_place_at(starts, _nearest(kept, place))] for place in _places_in(kept)}
    return Steps(kept, {place: found[place] for place in found if found[place] != 0})


def _essential(starts, worths, axis):
    """Return the first start of an axis and those where a weight changes."""
    changed = {place[axis] for place in worths if worths.get(_lower(place, axis), worths[place]) != worths[place]}
    return tuple([start for index, start in enumerate(starts) if index == 0 or index in changed])


def _lower(place, axis):
    return place[:axis] + (place[axis] - 1,) + place[axis + 1:]


def _spread(steps, starts):
    """Return the weights at all places of starts that are at least as fine."""
    groups, keys, rows = [
        [_index_at(coarse, size) for size in fine] for coarse, fine in zip(steps.starts, starts)
    ]
    return {
        place: steps.worths.get((groups[place[0]], keys[place[1]], rows[place[2]]), 0)
        for place in _places_in(starts)
    }


def _common_starts(first, second):
    return tuple([tuple(sorted(set(ones) | set(others))) for ones, others in zip(first.starts, second.starts)])


def _places_in(starts):
    """Return the list of the places that contain an offset."""
    groups, keys, rows = starts
    # An offset lies at least as many rows and keys away as groups, so the
    # stretches below the one with the first number of groups are too near.
    return [
        (group, key, row)
        for group, size in enumerate(groups)
        for key in range(_index_at(keys, size), len(keys))
        for row in range(_index_at(rows, size), len(rows))
    ]


def _nearest(starts, place):
    """Return the least sizes of an offset at a place."""
    group, key, row = [starts[axis][index] for axis, index in enumerate(place)]
    return group, max(group, key), max(group, row)


def _place_at(starts, sizes):
    return tuple([_index_at(ones, size) for ones, size in zip(starts, sizes)])


def _index_at(starts, size):
    """Return the index of the stretch that contains the size."""
    index = 0
    while index + 1 < len(starts) and starts[index + 1] <= size:
        index += 1
    return index


def _cell_at(zone, starts, place):
    groups, keys, rows = [_stretch_at(zone, starts[axis], index) for axis, index in enumerate(place)]
    return Cell(zone, rows, groups, keys)


def _stretch_at(zone, starts, index):
    low = starts[index]
    if low == 0:
        return Stretch(0, 0)
    stretch = Stretch(low, starts[index + 1] - 1 if index + 1 < len(starts) else None)
    return -stretch if zone in ("past", "before") else stretch
