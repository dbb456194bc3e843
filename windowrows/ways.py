"""Ways: the rows on one side of a row, from the nearest one on."""

from windowrows.weights import zones_on


def way_to(rows, groups, distance):
    """Return how far in the key the rows up to an offset lie, the nearest first.

    The three numbers are the absolute values of the offset.
    """
    # The groups before the last one have one row each and lie one apart.
    return [place if place < groups else distance for place in range(1, rows + 1)]


def best_way(top, side, length):
    """Return (sum, offsets) of a way of at most so many rows with the greatest sum of weights.

    The offsets are tuples (rows, groups, distance) of absolute values.
    """
    peers, others = [top.by_zone[zone] for zone in zones_on(side)]
    best = (0, [])
    ways = {(0, 0): best}
    for rows in range(1, length + 1):
        longer = {}
        for (groups, distance), (total, offsets) in ways.items():
            for place in _next_places(groups, distance, others.key_starts()):
                steps = peers if place == (0, 0) else others
                reached = total + steps.at((*place, rows))
                if place not in longer or longer[place][0] < reached:
                    longer[place] = (reached, offsets + [(rows, *place)])
        ways = longer
        best = max([best] + list(ways.values()), key=lambda way: way[0])
    return best


def _next_places(groups, distance, key_starts):
    """Return the list of (groups, distance) where the next row of a way may stand.

    Of all distances with the same weights the least one leaves most room.
    """
    further = [distance + 1] + [start for start in key_starts if start > distance + 1]
    return [(groups, distance)] + [(groups + 1, size) for size in further]
