"""Regions: sets of possible offsets."""

from windowrows.offsets import Offset
from windowrows.steps import ZONES
from windowrows.stretches import Stretch
from windowrows.weights import even_weights, joined_weights, level_weights, mirrored, support_of, weights_between

UNITS = ("rows", "groups", "keys")

# Whether an offset is in the result, by whether it is in the first region
# (the rows) and in the second one (the columns).
BOTH = ((0, 0), (0, 1))
ANY = ((0, 1), (1, 1))
FIRST_ONLY = ((0, 0), (1, 0))
ONE_ONLY = ((0, 1), (1, 0))


class Region:
    """A set of possible offsets; weights is 1 on the region and 0 elsewhere."""

    def __init__(self, weights):
        self.weights = weights

    def cells(self):
        """Return the list of the cells of the region."""
        return [cell for cell, worth in self.weights.cells()]

    def within(self, other):
        """Return whether every offset of the region is in the other one."""
        return not (self - other)

    def rowless(self):
        """Return whether the region does not depend on rows."""
        return self.weights.turn() is None

    def fewest_rows(self):
        """Return the least number of rows of a table with an offset of the region, or None."""
        return min([cell.nearest().fewest_rows() for cell in self.cells()], default=None)

    def form(self):
        """Return a tuple that is the same for equal regions only, as a key."""
        return self.weights.form()

    def __and__(self, other):
        return Region(joined_weights(self.weights, other.weights, BOTH))

    def __or__(self, other):
        return Region(joined_weights(self.weights, other.weights, ANY))

    def __sub__(self, other):
        return Region(joined_weights(self.weights, other.weights, FIRST_ONLY))

    def __xor__(self, other):
        return Region(joined_weights(self.weights, other.weights, ONE_ONLY))

    def __invert__(self):
        return every() - self

    def __neg__(self):
        return Region(mirrored(self.weights))

    def __eq__(self, other):
        return isinstance(other, Region) and self.weights == other.weights

    def __contains__(self, offset):
        return isinstance(offset, Offset) and self.weights.at(offset) != 0

    def __bool__(self):
        return bool(self.weights)


def rows_between(low, high):
    """Return the region of the offsets whose rows is from low to high."""
    return region_between("rows", low, high)


def groups_between(low, high):
    """Return the region of the offsets whose groups is from low to high."""
    return region_between("groups", low, high)


def keys_between(low, high):
    """Return the region of the offsets whose distance is from low to high."""
    return region_between("keys", low, high)


def region_between(unit, low, high):
    """Return rows_between, groups_between or keys_between, by the word for it."""
    return Region(weights_between(unit, Stretch(low, high)))


def own_row():
    """Return the region of the row itself."""
    return Region(even_weights(("self",)))


def own_group():
    """Return the region of the row itself and its peers."""
    return Region(even_weights(("before", "self", "after")))


def ties():
    """Return the region of the peers without the row itself."""
    return Region(even_weights(("before", "after")))


def every():
    """Return the region of all possible offsets."""
    return Region(even_weights(ZONES))


def nothing():
    """Return the empty region."""
    return Region(even_weights(()))


def weights_of(region, number):
    """Return the weight function that is number on the region and 0 elsewhere."""
    return region.weights * number


def region_of(weights):
    """Return the region where the weight is not 0."""
    return Region(support_of(weights))


def levels_of(weights):
    """Return the list of the tuples (weight, region that has it), without the weight 0."""
    worths = sorted(set([worth for cell, worth in weights.cells()]))
    return [(worth, Region(level_weights(weights, worth))) for worth in worths]
