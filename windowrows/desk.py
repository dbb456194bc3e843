"""The desk: a board that is used by lines of text."""

from windowrows.apart import fewest_rows_apart
from windowrows.boards import Board
from windowrows.ceilings import most_of
from windowrows.errors import BadLine
from windowrows.formulatext import read_formula
from windowrows.names import is_name
from windowrows.settled import fewest_rows_to_swing
from windowrows.stretches import number_end

# What follows the first word of a line.
FORMS = {
    "put": ("PAIRS",),
    "set": ("ROW", "PAIRS"),
    "take": ("ROW",),
    "exchange": ("NAME", "ROW", "ROW"),
    "undo": (),
    "redo": (),
    "show": ("NAME", "FORMULA"),
    "hide": ("NAME",),
    "ask": ("NAME",),
    "alike": ("NAME", "NAME"),
    "settled": ("NAME",),
    "most": ("NAME",),
}


class Desk:
    """A board without rows and formulas at first."""

    def __init__(self, scheme):
        self.board = Board(scheme)

    def say(self, line):
        """Carry out a line and return what there is to say."""
        word, rest = _first_word(line.strip(" "))
        if word not in FORMS:
            raise BadLine()
        told = _read_rest(rest, FORMS[word])
        action = ACTIONS[word]
        return action(self.board, *told)


def _read_rest(text, kinds):
    """Return the list of what a text without spaces at its ends tells, one for each kind."""
    told = []
    rest = text
    for kind in kinds:
        if kind == "PAIRS":
            told.append(_read_pairs(rest))
            rest = ""
        elif kind == "FORMULA":
            told.append(_read_text(rest))
            rest = ""
        else:
            word, rest = _first_word(rest)
            told.append(_read_integer(word) if kind == "ROW" else _read_name(word))
    if rest != "":
        raise BadLine()
    return told


def _first_word(text):
    """Return (word, rest) of a text without spaces at its ends; the rest has none there either."""
    word, space, rest = text.partition(" ")
    return word, rest.strip(" ")


def _read_pairs(text):
    """Return the dict of the numbers by their columns, in the order of the text."""
    found = {}
    rest = text
    while rest != "" or not found:
        word, rest = _first_word(rest)
        column, sign, digits = word.partition("=")
        if column in found:
            raise BadLine()
        found[_read_name(column)] = _read_integer(digits)
    return found


def _read_text(text):
    if text == "":
        raise BadLine()
    return text


def _read_name(word):
    if not is_name(word):
        raise BadLine()
    return word


def _read_integer(word):
    if word == "" or number_end(word, 0) != len(word):
        raise BadLine()
    return int(word)


def _put(board, pairs):
    board.scheme.check_columns(list(pairs))
    return f"row {board.put(pairs)}"


def _set(board, number, pairs):
    board.scheme.check_columns(list(pairs))
    board[number] = {**board[number], **pairs}
    return f"row {number}"


def _take(board, number):
    board.take(number)
    return f"rows {len(board)}"


def _exchange(board, sort, row, other):
    board.exchange(sort, row, other)
    return "done"


def _undo(board):
    board.undo()
    return "done"


def _redo(board):
    board.redo()
    return "done"


def _show(board, name, text):
    board.show(name, read_formula(text))
    return "done"


def _hide(board, name):
    board.hide(name)
    return "done"


def _ask(board, name):
    shown = board.shown(name)
    return " ".join([str(number) for number in shown]) if shown else "none"


def _alike(board, name, other_name):
    first = board.formula(name)
    rows = fewest_rows_apart(board.scheme, first, board.formula(other_name))
    return "alike" if rows is None else f"apart {rows}"


def _settled(board, name):
    rows = fewest_rows_to_swing(board.scheme, board.formula(name))
    return "settled" if rows is None else f"open {rows}"


def _most(board, name):
    most = most_of(board.scheme, board.formula(name))
    return "unbounded" if most is None else str(most)


ACTIONS = {
    "put": _put,
    "set": _set,
    "take": _take,
    "exchange": _exchange,
    "undo": _undo,
    "redo": _redo,
    "show": _show,
    "hide": _hide,
    "ask": _ask,
    "alike": _alike,
    "settled": _settled,
    "most": _most,
}
