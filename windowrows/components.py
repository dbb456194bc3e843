"""The weight functions of a formula, without barred marks."""

from windowrows.regions import weights_of


def component_weights(formula):
    """Return the weight functions of the terms under keys (sort name, marks, column).

    The marks are a tuple in ascending order.
    """
    found = {}
    for term in formula.terms():
        for marks, factor in _products(term):
            key = (term.sort_name, marks, term.column)
            weights = weights_of(term.window, factor)
            found[key] = found[key] + weights if key in found else weights
    return found


def components_in(formula, sort):
    """Return the weight functions of a sort under keys (marks, column)."""
    return {
        (marks, column): weights
        for (name, marks, column), weights in component_weights(formula).items() if name == sort
    }


def worth(row, marks, column):
    """Return what a row adds for a weight of 1."""
    if not all([row[mark] == 1 for mark in marks]):
        return 0
    return 1 if column == "" else row[column]


def _products(term):
    """Return the list of tuples (marks, factor) that the term is multiplied out to.

    A barred mark m counts as 1 - m.
    """
    found = [(term.wanted, term.factor)]
    for barred in term.barred:
        found = found + [(marks + (barred,), -factor) for marks, factor in found]
    return [(tuple(sorted(marks)), factor) for marks, factor in found]
