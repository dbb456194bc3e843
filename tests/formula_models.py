"""What plain terms weigh, told by plain loops, and ways to write a formula differently.

Plain terms are those of table_samples. A component is a tuple (marks, column)
with the marks as a tuple in ascending order.
"""

import itertools

from samples import TRIPLES
from table_samples import WINDOWS, formula_with, random_terms, sorts_of
from windowrows.formulas import count_of, number, sum_of
from windowrows.lays import lay_at, lay_count
from windowrows.regions import every, own_row

SELF = (0, 0, 0)
NEXT = (1, 1, 1)


def components_of(scheme):
    """Return all components of a scheme, in ascending order."""
    marks = sorted(scheme.mark_columns)
    return sorted(
        (chosen, column)
        for size in range(len(marks) + 1) for chosen in itertools.combinations(marks, size)
        for column in ["", *scheme.value_columns]
    )


def coefficient(wanted, barred, marks):
    """Return what stands ahead of the product of the marks when wanted and barred ones are multiplied out."""
    if not set(wanted) <= set(marks) <= set(wanted) | set(barred):
        return 0
    return (-1) ** (len(marks) - len(wanted))


def plain_weight(terms, sort, component, triple):
    """Return the weight of a sort and a component at (rows, groups, distance)."""
    return sum(
        factor * coefficient(wanted, barred, component[0])
        for factor, column, name, window, wanted, barred in terms
        if name == sort and column == component[1] and WINDOWS[window][1](*triple)
    )


def plain_own(scheme, constant, terms, component):
    found = sum(plain_weight(terms, sort, component, SELF) for sort in scheme.sort_names())
    return found + (constant if component == ((), "") else 0)


def plain_others(scheme, terms, part, component):
    return sum(
        plain_weight(terms, sort.name, component, NEXT) for sort in sorts_of(scheme) if sort.part == part
    )


def plain_turns(terms, sort, component):
    """Return the turns as a dict by the triples of samples."""
    base = plain_weight(terms, sort, component, NEXT)
    return {
        triple: 0 if triple == SELF else plain_weight(terms, sort, component, triple) - base for triple in TRIPLES
    }


def plain_turn(terms, sort, component):
    """Return the turn of a weight function by its definition, or None; windows end below the limit of samples."""
    weights = {triple: plain_weight(terms, sort, component, triple) for triple in TRIPLES if triple != SELF}
    by_place = {}
    for (rows, groups, distance), weight in weights.items():
        by_place.setdefault((groups, distance), []).append((abs(rows), weight))
    found = [
        max(rows, other_rows)
        for seen in by_place.values() for (rows, weight), (other_rows, other) in itertools.combinations(seen, 2)
        if weight != other
    ]
    return min(found, default=None)


def plain_turn_by_sort(scheme, terms):
    """Return the least turn of each sort that has one."""
    found = {}
    for sort in scheme.sort_names():
        turns = [plain_turn(terms, sort, component) for component in components_of(scheme)]
        if any(turn is not None for turn in turns):
            found[sort] = min(turn for turn in turns if turn is not None)
    return found


def all_lays(table):
    return [lay_at(table, at) for at in range(lay_count(table))]


def random_formula(dice, scheme, most_terms=5):
    """Return (formula, constant, plain terms)."""
    constant = dice.randrange(-4, 5)
    terms = random_terms(dice, scheme, dice.randrange(most_terms + 1))
    return formula_with(constant, terms), constant, terms


def one_term(column, sort, window, wanted=(), barred=()):
    if column == "":
        return count_of(sort, window, wanted=wanted, barred=barred)
    return sum_of(column, sort, window, wanted=wanted, barred=barred)


def rewritten(dice, scheme, constant, terms):
    """Return a formula with the same answers that is made in another way."""
    total = number(0)
    for factor, column, sort, window, wanted, barred in dice.sample(terms, len(terms)):
        region = WINDOWS[window][0]
        cut = dice.choice(WINDOWS)[0]
        for piece in (region & cut, region - cut):
            free = [mark for mark in scheme.mark_columns if mark not in wanted and mark not in barred]
            if free and dice.randrange(2):
                mark = dice.choice(free)
                total = total + factor * one_term(column, sort, piece, [*wanted, mark], barred)
                total = total + factor * one_term(column, sort, piece, wanted, [*barred, mark])
            elif barred:
                total = total + factor * one_term(column, sort, piece, wanted, barred[1:])
                total = total - factor * one_term(column, sort, piece, [*wanted, barred[0]], barred[1:])
            else:
                total = total + factor * one_term(column, sort, piece, wanted, barred)
    total = total + constant * count_of(dice.choice(scheme.sort_names()), own_row())
    return total + _nothing_by_two_sorts(dice, scheme)


def _nothing_by_two_sorts(dice, scheme):
    """Return a formula that is 0 everywhere, over two sorts with the same part if there are such."""
    pairs = [
        (first.name, second.name) for first, second in itertools.permutations(sorts_of(scheme), 2)
        if first.part == second.part
    ]
    if not pairs:
        return number(0)
    first, second = dice.choice(pairs)
    column = dice.choice(["", *scheme.value_columns])
    return one_term(column, first, every()) - one_term(column, second, every() - own_row()) - one_term(
        column, second, own_row(),
    )
