"""Small offsets and functions over them, from which tests tell what must hold.

A model is a dict from (rows, groups, distance) to the weight, or the same as
a set of triples for a region. It has all offsets whose numbers are at most
LIMIT, which is enough for functions whose weights change below LIMIT.
"""

import itertools
import random

from windowrows import regions
from windowrows.offsets import Offset, possible

LIMIT = 5
ZONES = ["past", "before", "self", "after", "future"]
TRIPLES = [
    triple for triple in itertools.product(range(-LIMIT, LIMIT + 1), repeat=3) if possible(*triple)
]
OFFSETS = [Offset(*triple) for triple in TRIPLES]
ZONE_OF = {triple: Offset(*triple).zone for triple in TRIPLES}
BETWEEN = [("rows", regions.rows_between), ("groups", regions.groups_between), ("keys", regions.keys_between)]


def numbers(offset):
    return (offset.rows, offset.groups, offset.distance)


def ends(stretch):
    return (stretch.low, stretch.high)


def cell_numbers(cell):
    return (cell.zone, ends(cell.rows), ends(cell.groups), ends(cell.distance))


def model_of(weights):
    return {numbers(offset): weights.at(offset) for offset in OFFSETS}


def members(region):
    return {numbers(offset) for offset in OFFSETS if offset in region}


def basic_samples(far=3):
    """Return all basic regions with ends up to far, as (region, set of triples, text)."""
    found = []
    for axis, (word, function) in enumerate(BETWEEN):
        for low in [None, *range(-far, far + 1)]:
            for high in [None, *range(-far, far + 1)]:
                if low is None or high is None or low <= high:
                    inside = {
                        triple for triple in TRIPLES
                        if (low is None or low <= triple[axis]) and (high is None or triple[axis] <= high)
                    }
                    text = f"{word} {'' if low is None else low}..{'' if high is None else high}"
                    found.append((function(low, high), inside, text))
    for function, word, zones in [
        (regions.own_row, "self", ["self"]), (regions.own_group, "group", ["before", "self", "after"]),
        (regions.ties, "ties", ["before", "after"]), (regions.every, "all", ZONES), (regions.nothing, "none", []),
    ]:
        found.append((function(), {triple for triple in TRIPLES if ZONE_OF[triple] in zones}, word))
    return found


def mixed_samples(seed, count):
    """Return combinations of basic regions, as (region, set of triples, text)."""
    dice = random.Random(seed)
    basics = basic_samples()
    return [_mixed(dice, basics, dice.choice([1, 2, 2, 3])) for _ in range(count)]


def _mixed(dice, basics, depth):
    if depth == 0:
        return dice.choice(basics)
    first, first_set, first_text = _mixed(dice, basics, depth - 1)
    if dice.randrange(6) == 0:
        return ~first, set(TRIPLES) - first_set, f"~({first_text})"
    second, second_set, second_text = _mixed(dice, basics, depth - 1)
    sign = dice.choice("&|-")
    if sign == "&":
        return first & second, first_set & second_set, f"({first_text}) & ({second_text})"
    if sign == "|":
        return first | second, first_set | second_set, f"({first_text}) | ({second_text})"
    return first - second, first_set - second_set, f"({first_text}) - ({second_text})"


def weight_samples(seed, count):
    """Return weight functions, as (weights, model)."""
    dice = random.Random(seed)
    parts = mixed_samples(seed, 3 * count)
    found = []
    for start in range(0, 3 * count, 3):
        total = regions.weights_of(regions.nothing(), 1)
        model = {triple: 0 for triple in TRIPLES}
        for region, inside, _ in parts[start:start + dice.choice([1, 2, 3])]:
            factor = dice.choice([-2, -1, 1, 1, 3])
            total = total + regions.weights_of(region, factor)
            model = {triple: model[triple] + factor * (triple in inside) for triple in TRIPLES}
        found.append((total, model))
    return found


def essential_ends(model, zone, axis):
    """Return the essential ends of an axis, by the definition."""
    sizes = sized(model, zone)
    found = set()
    for place in sizes:
        lower = list(place)
        lower[axis] -= 1
        if tuple(lower) in sizes and sizes[tuple(lower)] != sizes[place]:
            found.add(place[axis])
    return sorted(found)


def sized(model, zone):
    return {
        tuple(abs(number) for number in triple): weight
        for triple, weight in model.items() if ZONE_OF[triple] == zone
    }


def canonical(model):
    """Return the canonical form of a model, by the definition: (zone, rows, groups, distance, weight)."""
    found = []
    for zone in ZONES:
        sizes = sized(model, zone)
        rows, groups, distances = [stretches_of(model, zone, axis) for axis in range(3)]
        for group, distance, row in itertools.product(groups, distances, rows):
            inside = [
                weight for place, weight in sizes.items()
                if all(low <= size and (high is None or size <= high)
                       for size, (low, high) in zip(place, (row, group, distance)))
            ]
            assert len(set(inside)) <= 1
            if inside and inside[0] != 0:
                found.append((zone, *[signed(zone, stretch) for stretch in (row, group, distance)], inside[0]))
    return found


def stretches_of(model, zone, axis):
    if zone == "self" or (zone in ("before", "after") and axis != 0):
        return [(0, 0)]
    starts = [1] + essential_ends(model, zone, axis)
    return list(zip(starts, [start - 1 for start in starts[1:]] + [None]))


def signed(zone, stretch):
    low, high = stretch
    if zone in ("past", "before"):
        return (None if high is None else -high, -low)
    return (low, high)
