"""Whether the answer at one row of one table depends on the order of peers."""

from windowrows.answers import answer
from windowrows.extremes import greatest, least
from windowrows.settled import Swing


def settled_in(table, formula, row):
    """Return whether the answer at a row is the same in all lays of a table."""
    return greatest(table, formula, row).answer == least(table, formula, row).answer


def swing_in(table, formula, row):
    """Return an exchange in a lay of this table that changes the answer at the row, or None."""
    low = least(table, formula, row)
    high = greatest(table, formula, row)
    lay = low.lay
    # The exchanges lead from the one lay to the other, so one of them
    # changes the answer if the two answers differ.
    for sort, first, second in _exchanges_between(low.lay, high.lay):
        changed = lay.exchanged(sort, first, second)
        if answer(changed, formula, row) != low.answer:
            return Swing(lay, sort, (first, second), row, formula)
        lay = changed
    return None


def _exchanges_between(lay, goal):
    """Return the list of the exchanges (sort, row, other) that make the one lay the other."""
    found = []
    for sort in lay.table.scheme.sort_names():
        order = lay.order(sort)
        for place, row in enumerate(goal.order(sort)):
            # The places before this one are as they are to be.
            now = order.index(row)
            for ahead in reversed(range(place, now)):
                found.append((sort, order[ahead], row))
                order[ahead + 1] = order[ahead]
                order[ahead] = row
    return found
