"""Texts of formulas."""

from windowrows.errors import BadText
from windowrows.formulas import count_of, number, sum_of
from windowrows.names import is_name
from windowrows.reader import Reader
from windowrows.regiontext import read_union, write_region
from windowrows.stretches import MOST_DIGITS


def read_formula(text):
    """Return the formula that the whole text describes."""
    reader = Reader(text)
    formula = -_read_item(reader) if reader.takes("-") else _read_item(reader)
    while reader.token() != "":
        if reader.takes("+"):
            formula = formula + _read_item(reader)
        elif reader.takes("-"):
            formula = formula - _read_item(reader)
        else:
            raise BadText(reader.place)
    return formula


def _read_item(reader):
    digits = reader.digits()
    if digits == "":
        return _read_window(reader)
    if len(digits) > MOST_DIGITS or (digits[0] == "0" and digits != "0"):
        raise BadText(reader.place)
    reader.move(reader.place + len(digits))
    if reader.takes("*"):
        return int(digits) * _read_window(reader)
    return number(int(digits))


def _read_window(reader):
    column = _read_head(reader)
    _pass(reader, "by")
    sort = _read_name(reader)
    _pass(reader, ";")
    window = read_union(reader, 0)
    wanted, barred = _read_marks(reader) if reader.takes(";") else ([], [])
    _pass(reader, ")")
    if column == "":
        return count_of(sort, window, wanted=wanted, barred=barred)
    return sum_of(column, sort, window, wanted=wanted, barred=barred)


def _read_head(reader):
    """Return the column of a sum, or the empty string for a count, and go behind it."""
    if reader.takes("count"):
        _pass(reader, "(")
        return ""
    _pass(reader, "sum")
    _pass(reader, "(")
    column = _read_name(reader)
    _pass(reader, ";")
    return column


def _read_marks(reader):
    """Return the lists of the wanted and of the barred marks."""
    wanted = []
    barred = []
    while True:
        marks = barred if reader.takes("not") else wanted
        if reader.token() in wanted + barred:
            raise BadText(reader.place)
        marks.append(_read_name(reader))
        if not reader.takes(","):
            return wanted, barred


def _read_name(reader):
    name = reader.token()
    if not is_name(name):
        raise BadText(reader.place)
    reader.move(reader.place + len(name))
    return name


def _pass(reader, token):
    if not reader.takes(token):
        raise BadText(reader.place)


def write_formula(formula):
    """Return a text that read_formula reads as an equal formula."""
    items = [(term.factor, _window_text(term)) for term in formula.terms()]
    # A formula has at least one item, so 0 is written if there is nothing else.
    if formula.constant != 0 or not items:
        items.append((formula.constant, ""))
    texts = [_item_text(abs(factor), window) for factor, window in items]
    signs = ["-" if factor < 0 else "+" for factor, window in items]
    first = "-" + texts[0] if signs[0] == "-" else texts[0]
    return " ".join([first] + [f"{sign} {text}" for sign, text in zip(signs[1:], texts[1:])])


def _item_text(size, window):
    if window == "":
        return str(size)
    return window if size == 1 else f"{size} * {window}"


def _window_text(term):
    head = "count(" if term.column == "" else f"sum({term.column}; "
    marks = list(term.wanted) + [f"not {mark}" for mark in term.barred]
    tail = "; " + ", ".join(marks) if marks else ""
    return f"{head}by {term.sort_name}; {write_region(term.window)}{tail})"
