"""Formulas: integer combinations of sums and counts over windows."""

from windowrows.errors import MarkTwice, UnknownColumn, UnknownSort


class Term:
    """A factor times the sum of a column, or the number, of the rows of a window.

    The column is the empty string if rows are counted. kind is the same for
    terms that differ only in the factor, and for no others.
    """

    def __init__(self, factor, column, sort_name, window, wanted, barred):
        self.factor = factor
        self.column = column
        self.sort_name = sort_name
        self.window = window
        self.wanted = tuple(sorted(wanted))
        self.barred = tuple(sorted(barred))
        self.kind = (column, sort_name, window.form(), self.wanted, self.barred)

    def with_factor(self, factor):
        """Return the term that differs from this one in the factor."""
        return Term(factor, self.column, self.sort_name, self.window, self.wanted, self.barred)

    def __eq__(self, other):
        return isinstance(other, Term) and self.factor == other.factor and self.kind == other.kind


class Formula:
    """A constant and terms; by_kind has each term under its kind."""

    def __init__(self, constant, terms):
        self.constant = constant
        self.by_kind = _put_together(terms)

    def terms(self):
        """Return the list of the terms."""
        return list(self.by_kind.values())

    def __add__(self, other):
        second = _as_formula(other)
        return Formula(self.constant + second.constant, self.terms() + second.terms())

    def __radd__(self, other):
        return self + other

    def __sub__(self, other):
        return self + -_as_formula(other)

    def __rsub__(self, other):
        return -self + other

    def __neg__(self):
        return self * -1

    def __mul__(self, factor):
        return Formula(self.constant * factor, [term.with_factor(term.factor * factor) for term in self.terms()])

    def __rmul__(self, factor):
        return self * factor

    def __eq__(self, other):
        return isinstance(other, Formula) and self.constant == other.constant and self.by_kind == other.by_kind


def number(value):
    """Return the formula that has only this constant."""
    return Formula(value, [])


def count_of(sort, window, *, wanted=(), barred=()):
    """Return the number of the rows in a window that have all wanted and no barred marks."""
    return one_term("", sort, window, wanted, barred)


def sum_of(column, sort, window, *, wanted=(), barred=()):
    """Return the sum of a column over the rows that count_of counts."""
    return one_term(column, sort, window, wanted, barred)


def one_term(column, sort, window, wanted, barred):
    """Return sum_of a column, or count_of if the column is the empty string."""
    marks = [*wanted, *barred]
    for place, mark in enumerate(marks):
        if mark in marks[:place]:
            raise MarkTwice(mark)
    return Formula(0, [Term(1, column, sort, window, wanted, barred)])


def check(scheme, formula):
    """Raise UnknownSort or UnknownColumn if the formula does not fit the scheme."""
    terms = formula.terms()
    sorts = [term.sort_name for term in terms]
    columns = [term.column for term in terms if term.column != ""]
    marks = [mark for term in terms for mark in term.wanted + term.barred]
    bad_sorts = _others(sorts, scheme.sort_names())
    if bad_sorts:
        raise UnknownSort(min(bad_sorts))
    bad_columns = _others(columns, scheme.value_columns) + _others(marks, scheme.mark_columns)
    if bad_columns:
        raise UnknownColumn(min(bad_columns))


def _as_formula(value):
    return value if isinstance(value, Formula) else number(value)


def _put_together(terms):
    """Return one term for all that differ only in the factor, under its kind.

    Terms that add nothing are left out.
    """
    found = {}
    for term in terms:
        if term.kind in found:
            found[term.kind] = term.with_factor(found[term.kind].factor + term.factor)
        else:
            found[term.kind] = term
    return {kind: found[kind] for kind in found if found[kind].factor != 0 and found[kind].window}


def _others(names, known):
    return [name for name in names if name not in known]
