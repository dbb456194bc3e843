"""Normal forms: equal for formulas that have the same answers everywhere."""

from windowrows.components import component_weights
from windowrows.errors import OtherScheme
from windowrows.formulas import check, number, one_term
from windowrows.offsets import Offset
from windowrows.regions import every, levels_of, nothing, own_row, weights_of


class Normal:
    """The entries of a formula; those that are 0 are left out.

    own_at has integers by (marks, column), others_at integers by (part,
    marks, column), and turns_at weight functions by (sort, marks, column).
    """

    def __init__(self, scheme, own_at, others_at, turns_at):
        self.scheme = scheme
        self.own_at = _not_zero(own_at)
        self.others_at = _not_zero(others_at)
        self.turns_at = _not_zero(turns_at)

    def own(self, marks, column):
        """Return the sum of the weights of self, and of the constant."""
        return _entry(self.own_at, (marks, column), 0)

    def others(self, part, marks, column):
        """Return the sum of the weights at (1, 1, 1) over the sorts that have this part."""
        return _entry(self.others_at, (part, marks, column), 0)

    def turns(self, sort, marks, column):
        """Return by how much the weight of a sort differs from that at (1, 1, 1)."""
        name = self.scheme.sort_named(sort).name
        return _entry(self.turns_at, (name, marks, column), weights_of(nothing(), 0))

    def components(self):
        """Return the list of the components (marks, column) with an entry that is not 0."""
        entries = [*self.own_at, *self.others_at, *self.turns_at]
        return sorted(set([(entry[-2], entry[-1]) for entry in entries]))

    def __sub__(self, other):
        if self.scheme != other.scheme:
            raise OtherScheme()
        return Normal(
            self.scheme,
            _entries_minus(self.own_at, other.own_at),
            _entries_minus(self.others_at, other.others_at),
            _entries_minus(self.turns_at, other.turns_at),
        )

    def __eq__(self, other):
        return (
            isinstance(other, Normal)
            and self.scheme == other.scheme
            and self.own_at == other.own_at
            and self.others_at == other.others_at
            and self.turns_at == other.turns_at
        )

    def __bool__(self):
        return bool(self.own_at) or bool(self.others_at) or bool(self.turns_at)


def normal_of(scheme, formula):
    """Return the normal form of a formula."""
    check(scheme, formula)
    own_at = {((), ""): formula.constant}
    others_at = {}
    turns_at = {}
    for (sort, marks, column), weights in component_weights(formula).items():
        at_self = weights.at(Offset(0, 0, 0))
        at_next = weights.at(Offset(1, 1, 1))
        part = scheme.sort_named(sort).part
        own_at[(marks, column)] = own_at.get((marks, column), 0) + at_self
        others_at[(part, marks, column)] = others_at.get((part, marks, column), 0) + at_next
        level = weights_of(every(), at_next) + weights_of(own_row(), at_self - at_next)
        turns_at[(sort, marks, column)] = weights - level
    return Normal(scheme, own_at, others_at, turns_at)


def formula_of(normal):
    """Return a formula that has this normal form, without barred marks."""
    scheme = normal.scheme
    formula = number(normal.own((), ""))
    for (marks, column), worth in normal.own_at.items():
        if (marks, column) != ((), ""):
            formula = formula + worth * one_term(column, scheme.sort_names()[0], own_row(), marks, ())
    for (part, marks, column), worth in normal.others_at.items():
        # The sorts that have this part count the same other rows.
        sort = [found.name for found in scheme.sorts if found.part == part][0]
        formula = formula + worth * one_term(column, sort, every() - own_row(), marks, ())
    for (sort, marks, column), weights in normal.turns_at.items():
        for worth, window in levels_of(weights):
            formula = formula + worth * one_term(column, sort, window, marks, ())
    return formula


def _entry(entries, key, otherwise):
    """Return the entry under a key, which may contain anything that callers pass."""
    for known in entries:
        if known == key:
            return entries[known]
    return otherwise


def _not_zero(entries):
    return {key: entries[key] for key in entries if entries[key]}


def _entries_minus(first, second):
    """Return the entries of the first minus those of the second."""
    entries = list(first) + [key for key in second if key not in first]
    return {key: _entry_minus(first, second, key) for key in entries}


def _entry_minus(first, second, key):
    if key not in second:
        return first[key]
    if key not in first:
        return -second[key]
    return first[key] - second[key]
