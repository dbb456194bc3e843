"""Weight functions: an integer for every possible offset."""

from windowrows.offsets import Offset
from windowrows.steps import AXES, ZONES, added, even_steps, highest, joined, level, scaled, steps_between, support

MIRRORED = {"past": "future", "before": "after", "self": "self", "after": "before", "future": "past"}


class Weights:
    """A weight for every possible offset; by_zone has the Steps of each zone."""

    def __init__(self, by_zone):
        self.by_zone = by_zone

    def at(self, offset):
        """Return the weight of an offset."""
        return self.by_zone[offset.zone].at((abs(offset.groups), abs(offset.distance), abs(offset.rows)))

    def cells(self):
        """Return the canonical form: a list of tuples (cell, weight)."""
        return [pair for zone in ZONES for pair in self.by_zone[zone].cells(zone)]

    def nearest(self):
        """Return the least number of rows of an offset with a weight, or None."""
        return min([abs(cell.nearest().rows) for cell, worth in self.cells() if cell.zone != "self"], default=None)

    def turn(self):
        """Return within how many rows two weights differ that differ only in rows.

        Return None if the weight does not depend on rows.
        """
        if self.at(Offset(-1, 0, 0)) != self.at(Offset(1, 0, 0)):
            return 1
        return min([end for zone in ZONES for end in self.by_zone[zone].row_ends()], default=None)

    def form(self):
        """Return a tuple that is the same for equal functions only, as a key."""
        return tuple([self.by_zone[zone].form() for zone in ZONES])

    def __add__(self, other):
        return Weights({zone: added(self.by_zone[zone], other.by_zone[zone], 1) for zone in ZONES})

    def __sub__(self, other):
        return Weights({zone: added(self.by_zone[zone], other.by_zone[zone], -1) for zone in ZONES})

    def __neg__(self):
        return self * -1

    def __mul__(self, number):
        return Weights({zone: scaled(self.by_zone[zone], number) for zone in ZONES})

    def __rmul__(self, number):
        return self * number

    def __eq__(self, other):
        return isinstance(other, Weights) and self.by_zone == other.by_zone

    def __bool__(self):
        return bool(self.cells())


def even_weights(zones):
    """Return the weight function that is 1 in these zones and 0 elsewhere."""
    return Weights({zone: even_steps(zone, int(zone in zones)) for zone in ZONES})


def weights_between(unit, stretch):
    """Return the weight function that is 1 where the number of the unit is in the stretch."""
    axis = AXES.index(unit)
    opposite = -stretch
    return Weights({
        zone: steps_between(zone, axis, opposite if zone in ("past", "before") else stretch) for zone in ZONES
    })


def joined_weights(first, second, outcomes):
    """Return outcomes[a][b] where the weights of the two, 0 or 1, are a and b."""
    return Weights({zone: joined(first.by_zone[zone], second.by_zone[zone], outcomes) for zone in ZONES})


def support_of(weights):
    """Return the weight function that is 1 where the weight is not 0."""
    return Weights({zone: support(weights.by_zone[zone]) for zone in ZONES})


def level_weights(weights, worth):
    """Return the weight function that is 1 where the weight is this one."""
    return Weights({zone: level(weights.by_zone[zone], worth) for zone in ZONES})


def highest_weights(first, second):
    """Return the weight function that has the greater one of the weights of the two."""
    return Weights({zone: highest(first.by_zone[zone], second.by_zone[zone]) for zone in ZONES})


def mirrored(weights):
    """Return the weight function that has at each offset the weight of its negative."""
    return Weights({zone: weights.by_zone[MIRRORED[zone]] for zone in ZONES})


def turned_at(weights):
    """Return an offset with turn() rows whose weight is not that of after_exchange of it.

    The weight must depend on rows.
    """
    turn = weights.turn()
    if turn == 1:
        return Offset(1, 0, 0)
    zone = [zone for zone in ZONES if turn in weights.by_zone[zone].row_ends()][0]
    groups, distance = weights.by_zone[zone].change_at(turn)
    return -Offset(turn, groups, distance) if zone in ("past", "before") else Offset(turn, groups, distance)


def after_exchange(offset):
    """Return where another row lies after the row that is asked has changed places with its peer on that side."""
    if offset.rows < 0:
        return -after_exchange(-offset)
    if offset.rows == 1:
        return Offset(-1, 0, 0)
    return Offset(offset.rows - 1, offset.groups, offset.distance)


def zones_on(side):
    """Return the zones of the peers and of the other groups, before a row for the side -1, and behind it for 1."""
    return ("before", "past") if side < 0 else ("after", "future")
