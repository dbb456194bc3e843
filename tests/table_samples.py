"""Tables, lays and formulas for tests, with what must hold told by plain loops.

An order is the list of one sort in a lay; orders is a dict of them. A plain
term is a tuple (factor, column, sort, window, wanted, barred), where window
is an index into WINDOWS; the column is the empty string for a count.
"""

import itertools
import random

from windowrows.formulas import count_of, number, sum_of
from windowrows.lays import Lay
from windowrows.regions import (
    every, groups_between, keys_between, nothing, own_group, own_row, rows_between, ties,
)
from windowrows.schemes import Scheme, Sort
from windowrows.tables import Table

ONE_SORT = Scheme([Sort("day", "date")], values=["price"])
PARTED = Scheme([Sort("day", "date", part="shop")], parts=["shop"], values=["price"], marks=["paid"])
FALLING = Scheme([Sort("best", "points", part="shop", descending=True)], parts=["shop"], values=["price"])
THREE_SORTS = Scheme(
    [
        Sort("day", "date", part="shop"), Sort("best", "points", descending=True),
        Sort("town", "size", part="town", descending=True),
    ],
    parts=["shop", "town"], values=["price", "cost"], marks=["paid", "void", "late"],
)
SCHEMES = [ONE_SORT, PARTED, FALLING, THREE_SORTS]

# Regions, each with the function that tells of rows, groups and distance
# whether a possible offset is in it.
WINDOWS = [
    (rows_between(None, 0), lambda rows, groups, distance: rows <= 0),
    (rows_between(-2, 1), lambda rows, groups, distance: -2 <= rows <= 1),
    (rows_between(2, 2), lambda rows, groups, distance: rows == 2),
    (rows_between(-3, -2), lambda rows, groups, distance: -3 <= rows <= -2),
    (groups_between(None, -1), lambda rows, groups, distance: groups <= -1),
    (groups_between(-1, 2), lambda rows, groups, distance: -1 <= groups <= 2),
    (groups_between(2, None), lambda rows, groups, distance: groups >= 2),
    (keys_between(-3, 2), lambda rows, groups, distance: -3 <= distance <= 2),
    (keys_between(2, 4), lambda rows, groups, distance: 2 <= distance <= 4),
    (own_row(), lambda rows, groups, distance: rows == 0),
    (own_group(), lambda rows, groups, distance: groups == 0),
    (ties(), lambda rows, groups, distance: groups == 0 and rows != 0),
    (every(), lambda rows, groups, distance: True),
    (nothing(), lambda rows, groups, distance: False),
    (every() - own_row(), lambda rows, groups, distance: rows != 0),
    (
        rows_between(-4, 4) & groups_between(-1, 1) & keys_between(None, 2),
        lambda rows, groups, distance: -4 <= rows <= 4 and -1 <= groups <= 1 and distance <= 2,
    ),
    (
        rows_between(1, 3) ^ groups_between(-2, 2),
        lambda rows, groups, distance: (1 <= rows <= 3) != (-2 <= groups <= 2),
    ),
    (
        keys_between(-2, None) - rows_between(0, 1) | groups_between(-3, -3),
        lambda rows, groups, distance: (distance >= -2 and not 0 <= rows <= 1) or groups == -3,
    ),
]


def random_row(dice, scheme, spread=3):
    """Return a row whose numbers are close to one another, so that there are peers."""
    row = {column: dice.randrange(-spread, spread + 1) for column in scheme.columns()}
    row.update({column: dice.randrange(2) for column in [*scheme.part_columns, *scheme.mark_columns]})
    row.update({column: dice.randrange(-9, 10) for column in scheme.value_columns})
    return row


def random_rows(dice, scheme, count, spread=3):
    return [random_row(dice, scheme, spread) for _ in range(count)]


def place_in_sort(sort, row):
    """Return a tuple that is less the earlier a row stands, and equal for peers."""
    return (0 if sort.part is None else row[sort.part], row[sort.key] * (-1 if sort.descending else 1))


def groups_of(sort, rows):
    """Return the groups in their order, each as the list of its row numbers in ascending order."""
    places = sorted({place_in_sort(sort, row) for row in rows})
    return [[at for at, row in enumerate(rows) if place_in_sort(sort, row) == place] for place in places]


def all_orders(sort, rows):
    """Return all lists that a lay may give for a sort, in ascending order."""
    arranged = [list(itertools.permutations(group)) for group in groups_of(sort, rows)]
    return sorted([at for group in chosen for at in group] for chosen in itertools.product(*arranged))


def random_orders(dice, scheme, rows):
    """Return lists for all sorts, with peers in any order."""
    return {
        sort.name: [at for group in groups_of(sort, rows) for at in dice.sample(group, len(group))]
        for sort in sorts_of(scheme)
    }


def sorts_of(scheme):
    return [scheme.sort_named(name) for name in scheme.sort_names()]


def random_lay(dice, scheme, count, spread=3):
    """Return a lay with its rows and its orders."""
    rows = random_rows(dice, scheme, count, spread)
    orders = random_orders(dice, scheme, rows)
    return Lay(Table(scheme, rows), orders), rows, orders


def differences(sort, rows, order, row, other):
    """Return the rows, groups and distance of an offset, or None between parts."""
    if sort.part is not None and rows[row][sort.part] != rows[other][sort.part]:
        return None
    groups = groups_of(sort, rows)
    at = [index for index, group in enumerate(groups) if row in group][0]
    other_at = [index for index, group in enumerate(groups) if other in group][0]
    distance = rows[other][sort.key] - rows[row][sort.key]
    return (
        order.index(other) - order.index(row), other_at - at, -distance if sort.descending else distance,
    )


def random_terms(dice, scheme, count):
    return [
        (
            dice.choice([-3, -2, -1, 1, 1, 2, 5]), dice.choice(["", *scheme.value_columns]),
            dice.choice(scheme.sort_names()), dice.randrange(len(WINDOWS)), *random_marks(dice, scheme),
        )
        for _ in range(count)
    ]


def random_marks(dice, scheme):
    """Return a list of wanted and a list of barred marks without one in common."""
    marks = dice.sample(scheme.mark_columns, dice.randrange(len(scheme.mark_columns) + 1))
    cut = dice.randrange(len(marks) + 1)
    return marks[:cut], marks[cut:]


def formula_with(constant, terms):
    """Return the formula that has a constant and plain terms."""
    total = number(constant)
    for factor, column, sort, window, wanted, barred in terms:
        region = WINDOWS[window][0]
        if column == "":
            total = total + factor * count_of(sort, region, wanted=wanted, barred=barred)
        else:
            total = total + factor * sum_of(column, sort, region, wanted=wanted, barred=barred)
    return total


def plain_answers(scheme, rows, orders, constant, terms):
    """Return the answers at all rows, by looking at every pair of rows for every term."""
    found = [constant] * len(rows)
    for factor, column, sort, window, wanted, barred in terms:
        for row, other in itertools.product(range(len(rows)), repeat=2):
            triple = differences(scheme.sort_named(sort), rows, orders[sort], row, other)
            if triple is None or not WINDOWS[window][1](*triple):
                continue
            if all(rows[other][mark] == 1 for mark in wanted) and all(rows[other][mark] == 0 for mark in barred):
                found[row] += factor * (1 if column == "" else rows[other][column])
    return found


def answer_samples(seed, count, most_rows=7):
    """Return lays and formulas with their answers: (scheme, lay, formula, answers)."""
    dice = random.Random(seed)
    found = []
    for at in range(count):
        scheme = SCHEMES[at % len(SCHEMES)]
        lay, rows, orders = random_lay(dice, scheme, dice.randrange(most_rows + 1), spread=dice.choice([1, 2, 4]))
        constant = dice.randrange(-4, 5)
        terms = random_terms(dice, scheme, dice.randrange(6))
        found.append((
            scheme, lay, formula_with(constant, terms), plain_answers(scheme, rows, orders, constant, terms),
        ))
    return found
