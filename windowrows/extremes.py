"""The greatest and the least answer at a row over all lays of a table."""

from windowrows.answers import answer
from windowrows.components import components_in, worth
from windowrows.formulas import check
from windowrows.lays import Lay, first_lay
from windowrows.matching import best_matching
from windowrows.offsets import Offset


class Extreme:
    """An answer, and a lay in which the row has it."""

    def __init__(self, value, lay):
        self.answer = value
        self.lay = lay

    def __eq__(self, other):
        return isinstance(other, Extreme) and self.answer == other.answer and self.lay == other.lay


def greatest(table, formula, row):
    """Return the greatest answer at a row over all lays of a table."""
    return _extreme(table, formula, row, 1)


def least(table, formula, row):
    """Return the least answer at a row over all lays of a table."""
    return _extreme(table, formula, row, -1)


def _extreme(table, formula, row, sign):
    """Return the extreme for which the answer times the sign is greatest."""
    check(table.scheme, formula)
    table.check_number(row)
    first = first_lay(table)
    # What the terms of one sort add depends on the list of that sort only.
    lay = Lay(table, {
        sort: _best_order(first.line_of(sort), table.rows, components_in(formula * sign, sort), row)
        for sort in table.scheme.sort_names()
    })
    return Extreme(answer(lay, formula, row), lay)


def _best_order(line, rows, weights, row):
    """Return the list of a sort in which the weights add most at a row."""
    worths = [[worth(other, marks, column) for marks, column in weights] for other in rows]
    group = line.group_at[line.place_of[row]]
    places = [place for place, other in enumerate(line.group_at) if other == group]
    found = [_best_order_at(line, list(weights.values()), worths, row, place) for place in places]
    return max(found, key=lambda pair: pair[0])[1]


def _best_order_at(line, functions, worths, row, place):
    """Return (sum, list) for a list in which the weights add most at a row that stands at this place.

    What the row itself adds is left out.
    """
    total = 0
    order = list(line.row_at)
    order[place] = row
    for peers in line.peer_lists():
        start = line.place_of[peers[0]]
        if line.part_at[start] == line.part_at[place]:
            members = [other for other in peers if other != row]
            seats = [seat for seat in range(start, start + len(peers)) if seat != place]
            seen = [_weights_at(line, functions, place, seat) for seat in seats]
            matching = best_matching([[_added(worths[member], weights) for weights in seen] for member in members])
            total += matching.total
            for member, index in zip(members, matching.places):
                order[seats[index]] = member
    return total, order


def _weights_at(line, functions, place, seat):
    """Return the weights of what stands at a seat as seen from a place."""
    offset = Offset(
        seat - place, line.group_at[seat] - line.group_at[place], line.key_at[seat] - line.key_at[place],
    )
    return [function.at(offset) for function in functions]


def _added(worths, weights):
    return sum([worths[index] * weight for index, weight in enumerate(weights)])
