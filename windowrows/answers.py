"""Answers: what a formula gives at the rows of a lay."""

from windowrows.formulas import check


def answer(lay, formula, row):
    """Return the answer of the formula at a row number."""
    check(lay.table.scheme, formula)
    lay.table.check_number(row)
    return _answers_at(lay, formula, [row])[0]


def answers(lay, formula):
    """Return the list of the answers of the formula at all rows."""
    check(lay.table.scheme, formula)
    return _answers_at(lay, formula, list(range(len(lay.table))))


def _answers_at(lay, formula, rows):
    """Return the list of the answers at these row numbers."""
    found = [formula.constant for _ in rows]
    for term in formula.terms():
        line = lay.line_of(term.sort_name)
        worths = _worths(lay.table.rows, term)
        for index, row in enumerate(rows):
            # A row of another part has no offset and is in no window.
            seen = [worths[other] for other in worths if line.offset(row, other) in term.window]
            found[index] += term.factor * sum(seen)
    return found


def _worths(rows, term):
    """Return what each row with the marks of the term adds where it is in the window."""
    return {
        number: 1 if term.column == "" else row[term.column]
        for number, row in enumerate(rows) if _has_marks(row, term)
    }


def _has_marks(row, term):
    return all([row[mark] == 1 for mark in term.wanted]) and all([row[mark] == 0 for mark in term.barred])
