"""Boards told by plain loops, and comparing a board with that."""

import copy

from table_samples import place_in_sort, random_row, sorts_of
from windowrows.answers import answers
from windowrows.errors import NothingToRedo, NothingToUndo
from windowrows.lays import Lay
from windowrows.tables import Table


class Model:
    """Rows, orders and formulas of a board, with all states before and after."""

    def __init__(self, scheme):
        self.scheme = scheme
        self.rows = []
        self.orders = {name: [] for name in scheme.sort_names()}
        self.formulas = {}
        self.past = []
        self.future = []

    def state(self):
        return copy.deepcopy((self.rows, self.orders)), dict(self.formulas)

    def restore(self, state):
        (self.rows, self.orders), formulas = copy.deepcopy(state[0]), state[1]
        self.formulas = dict(formulas)

    def begin_change(self):
        self.past.append(self.state())
        self.future = []

    def put(self, row):
        self.begin_change()
        self.rows.append(dict(row))
        for sort in sorts_of(self.scheme):
            self.insert(sort, len(self.rows) - 1)
        return len(self.rows) - 1

    def insert(self, sort, number):
        """Put a number behind all rows that do not have to stand behind it."""
        order = self.orders[sort.name]
        place = 0
        for index, other in enumerate(order):
            if place_in_sort(sort, self.rows[other]) <= place_in_sort(sort, self.rows[number]):
                place = index + 1
        order.insert(place, number)

    def take(self, number):
        self.begin_change()
        del self.rows[number]
        for order in self.orders.values():
            order.remove(number)
            order[:] = [other - 1 if other > number else other for other in order]

    def set(self, number, row):
        self.begin_change()
        before = self.rows[number]
        self.rows[number] = dict(row)
        for sort in sorts_of(self.scheme):
            if place_in_sort(sort, before) != place_in_sort(sort, row):
                self.orders[sort.name].remove(number)
                self.insert(sort, number)

    def exchange(self, sort, row, other):
        self.begin_change()
        order = self.orders[sort]
        first, second = order.index(row), order.index(other)
        order[first], order[second] = other, row

    def show(self, name, formula):
        self.begin_change()
        self.formulas[name] = formula

    def hide(self, name):
        self.begin_change()
        del self.formulas[name]

    def undo(self):
        self.future.append(self.state())
        self.restore(self.past.pop())

    def redo(self):
        self.past.append(self.state())
        self.restore(self.future.pop())

    def lay(self):
        return Lay(Table(self.scheme, self.rows), self.orders)


def check_board(test, board, model):
    """Compare the rows, the lists and the formulas of a board with those of a model."""
    test.assertEqual(len(board), len(model.rows))
    test.assertEqual([board[number] for number in range(len(model.rows))], model.rows)
    lay = board.current_lay()
    test.assertEqual({name: lay.order(name) for name in model.orders}, model.orders)
    test.assertTrue(lay == model.lay())
    test.assertEqual(board.names(), sorted(model.formulas))
    for name, formula in model.formulas.items():
        test.assertTrue(board.formula(name) == formula)
        test.assertEqual(board.shown(name), answers(model.lay(), formula))


def check_history(test, board, model):
    """Compare all that can be undone and redone; the board and the model are the same afterwards."""
    check_board(test, board, model)
    past, future = len(model.past), len(model.future)
    for _ in range(past):
        board.undo()
        model.undo()
        check_board(test, board, model)
    with test.assertRaises(NothingToUndo):
        board.undo()
    for _ in range(past + future):
        board.redo()
        model.redo()
        check_board(test, board, model)
    with test.assertRaises(NothingToRedo):
        board.redo()
    for _ in range(future):
        board.undo()
        model.undo()
    check_board(test, board, model)


def random_deed(dice, model, names, formulas):
    """Return a deed that raises no error: (method, arguments); set stands for the assignment to a number."""
    count = len(model.rows)
    choices = ["put", "show"]
    if count:
        choices += ["put", "take", "set", "set", "set"]
    exchanges = model.lay().exchanges()
    if exchanges:
        choices += ["exchange"] * 3
    if model.formulas:
        choices += ["hide"]
    word = dice.choice(choices)
    if word == "put":
        return word, (random_row(dice, model.scheme, 1),)
    if word == "take":
        return word, (dice.randrange(count),)
    if word == "set":
        return word, (dice.randrange(count), some_row(dice, model))
    if word == "exchange":
        sort, row, other = dice.choice(exchanges)
        return word, dice.choice([(sort, row, other), (sort, other, row)])
    if word == "show":
        return word, (dice.choice(names), dice.choice(formulas))
    return word, (dice.choice(sorted(model.formulas)),)


def some_row(dice, model):
    """Return a new row, or one of the board with one column changed."""
    row = random_row(dice, model.scheme, 1)
    if dice.randrange(3) == 0:
        return row
    column = dice.choice(model.scheme.columns())
    return {**dice.choice(model.rows), column: row[column]}


def carry_out(board, word, arguments):
    """Make a deed on a board or on a model."""
    if word == "set" and not isinstance(board, Model):
        board[arguments[0]] = arguments[1]
        return None
    return getattr(board, word)(*arguments)
