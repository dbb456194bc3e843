"""Settled formulas: those that do not depend on the order of peers."""

from windowrows.answers import answer
from windowrows.formulas import check
from windowrows.swings import swing_lay, turns_by_sort


class Swing:
    """An exchange of two peers, the pair, after which the answer at a row is another one."""

    def __init__(self, lay, sort_name, pair, row, formula):
        self.lay = lay
        self.sort_name = sort_name
        self.pair = pair
        self.other_lay = lay.exchanged(sort_name, pair[0], pair[1])
        self.row = row
        self.first_answer = answer(lay, formula, row)
        self.second_answer = answer(self.other_lay, formula, row)

    def __eq__(self, other):
        return (
            isinstance(other, Swing)
            and self.lay == other.lay
            and self.other_lay == other.other_lay
            and self.sort_name == other.sort_name
            and self.pair == other.pair
            and self.row == other.row
            and self.first_answer == other.first_answer
            and self.second_answer == other.second_answer
        )


def row_sorts(scheme, formula):
    """Return the list of the sorts in which the formula looks at rows."""
    check(scheme, formula)
    turns = turns_by_sort(formula)
    return [name for name in scheme.sort_names() if name in turns]


def settled(scheme, formula):
    """Return whether the formula has the same answers in all lays of each table."""
    return not row_sorts(scheme, formula)


def fewest_rows_to_swing(scheme, formula):
    """Return how many rows show that the formula is not settled, or None."""
    check(scheme, formula)
    return min([turn + 1 for turn in turns_by_sort(formula).values()], default=None)


def swing(scheme, formula):
    """Return a smallest lay in which an exchange changes the answer at a row, or None."""
    names = row_sorts(scheme, formula)
    if not names:
        return None
    turns = turns_by_sort(formula)
    nearest = min(names, key=lambda name: turns[name])
    lay = swing_lay(scheme, formula, nearest, (), {})
    return Swing(lay, nearest, (0, 1), 0, formula)
