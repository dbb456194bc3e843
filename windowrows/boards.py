"""Boards: tables that change, with their lays and the formulas that are shown."""

from windowrows.answers import answers
from windowrows.errors import NoSuchName
from windowrows.formulas import check
from windowrows.history import History
from windowrows.lays import first_lay
from windowrows.moves import with_row, with_row_replaced, without_row
from windowrows.tables import Table


class State:
    """A lay, and formulas under their names. A state does not change."""

    def __init__(self, lay, formulas):
        self.lay = lay
        self.formulas = formulas


class Board:
    """A table that changes; history has its State now and those to return to."""

    def __init__(self, scheme):
        self.scheme = scheme
        self.history = History((), State(first_lay(Table(scheme, [])), {}), ())

    def put(self, row):
        """Add a row behind its peers in each list; return its number."""
        number = len(self)
        self._change_lay(with_row(self.current_lay(), row))
        return number

    def take(self, number):
        """Remove a row; the numbers of later rows become smaller by one."""
        self._change_lay(without_row(self.current_lay(), number))

    def exchange(self, sort, row, other):
        """Exchange two peers that stand next to each other in the list of a sort."""
        self._change_lay(self.current_lay().exchanged(sort, row, other))

    def current_lay(self):
        """Return the lay as it is now."""
        return self.history.now.lay

    def show(self, name, formula):
        """Store a formula under a name."""
        check(self.scheme, formula)
        self._change_formulas({**self.history.now.formulas, name: formula})

    def hide(self, name):
        """Remove the formula with this name."""
        self._check_name(name)
        formulas = self.history.now.formulas
        self._change_formulas({other: formulas[other] for other in formulas if other != name})

    def formula(self, name):
        """Return the formula with this name."""
        self._check_name(name)
        return self.history.now.formulas[name]

    def shown(self, name):
        """Return the answers of the formula with this name at the rows as they are now."""
        return answers(self.current_lay(), self.formula(name))

    def names(self):
        """Return the list of the names of the formulas, in ascending order."""
        return sorted(list(self.history.now.formulas))

    def undo(self):
        """Take back the last change that was not taken back."""
        self.history = self.history.undone()

    def redo(self):
        """Make the change again that was taken back last."""
        self.history = self.history.redone()

    def trial(self):
        """Return an object for a with block, behind which the board is what it was before."""
        return Trial(self)

    def __getitem__(self, number):
        return self.current_lay().table.record(number)

    def __setitem__(self, number, row):
        self._change_lay(with_row_replaced(self.current_lay(), number, row))

    def __len__(self):
        return len(self.current_lay().table)

    def __contains__(self, row):
        return row in self.current_lay().table.rows

    def __iter__(self):
        raise TypeError("a board is not iterated over")

    def _change_lay(self, lay):
        self.history = self.history.changed(State(lay, self.history.now.formulas))

    def _change_formulas(self, formulas):
        self.history = self.history.changed(State(self.current_lay(), formulas))

    def _check_name(self, name):
        if name not in self.history.now.formulas:
            raise NoSuchName(name)


class Trial:
    """A block in which a board may change; its history is kept for the end of the block."""

    def __init__(self, board):
        self.board = board
        self.kept = board.history

    def __enter__(self):
        # The board may have changed since the trial was made.
        self.kept = self.board.history
        return self.board

    def __exit__(self, kind, value, trace):
        self.board.history = self.kept


def tried(board, deeds, name):
    """Return the answers under a name after the deeds; the board stays what it is."""
    with board.trial() as trying:
        for deed in deeds:
            _carry_out(trying, deed)
        return trying.shown(name)


def _carry_out(board, deed):
    """Make one deed on a board."""
    if deed[0] == "put":
        board.put(deed[1])
    elif deed[0] == "take":
        board.take(deed[1])
    elif deed[0] == "set":
        board[deed[1]] = deed[2]
    elif deed[0] == "exchange":
        board.exchange(deed[1], deed[2], deed[3])
    elif deed[0] == "undo":
        board.undo()
    else:
        board.redo()
