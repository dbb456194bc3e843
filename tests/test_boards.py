"""Promises 42 and 43, and promise 2 for boards."""

import random
import unittest

from board_model import Model, carry_out, check_board, random_deed
from table_samples import (
    FALLING, PARTED, SCHEMES, THREE_SORTS, formula_with, random_row, random_rows, random_terms,
)
from windowrows.answers import answers
from windowrows.boards import Board
from windowrows.errors import (
    BadNumber, BadRow, NoSuchName, NotPeers, NothingToUndo, UnknownColumn, UnknownSort,
)
from windowrows.formulas import count_of, number, sum_of
from windowrows.lays import Lay, first_lay
from windowrows.named import row_number, running, shifted, total
from windowrows.regions import every, own_row
from windowrows.tables import Table


def parted(shop, date, price=0, paid=0):
    return {"shop": shop, "date": date, "price": price, "paid": paid}


def board_of(scheme, rows):
    board = Board(scheme)
    for row in rows:
        board.put(row)
    return board


def order(board, sort="day"):
    return board.current_lay().order(sort)


class ManyChanges(unittest.TestCase):
    def test_against_the_model(self):
        for seed in range(40):
            dice = random.Random(seed)
            scheme = SCHEMES[seed % len(SCHEMES)]
            board, model = Board(scheme), Model(scheme)
            formulas = [formula_with(at, random_terms(dice, scheme, at)) for at in range(4)]
            for _ in range(40):
                word, arguments = random_deed(dice, model, ["a", "b", "c"], formulas)
                expected = carry_out(model, word, arguments)
                self.assertEqual(carry_out(board, word, arguments), expected, word)
                check_board(self, board, model)


class Beginning(unittest.TestCase):
    def test_without_rows(self):
        for scheme in SCHEMES:
            board = Board(scheme)
            self.assertEqual(len(board), 0)
            self.assertEqual(board.names(), [])
            self.assertIsInstance(board.current_lay(), Lay)
            self.assertTrue(board.current_lay() == first_lay(Table(scheme, [])))
            with self.assertRaises(BadNumber):
                board[0]


class Put(unittest.TestCase):
    def test_numbers(self):
        board = Board(PARTED)
        for at in range(5):
            self.assertEqual(board.put(parted(0, -at)), at)
            self.assertEqual(len(board), at + 1)
            self.assertEqual(board[at], parted(0, -at))
        board.take(1)
        self.assertEqual(board.put(parted(0, 9)), 4)

    def test_behind_its_peers(self):
        board = board_of(PARTED, [parted(0, 5), parted(0, 3), parted(0, 5), parted(1, 5)])
        self.assertEqual(order(board), [1, 0, 2, 3])
        board.put(parted(0, 5))
        self.assertEqual(order(board), [1, 0, 2, 4, 3])
        board.put(parted(0, 3))
        self.assertEqual(order(board), [1, 5, 0, 2, 4, 3])
        board.put(parted(1, 5))
        self.assertEqual(order(board), [1, 5, 0, 2, 4, 3, 6])
        board.put(parted(0, 4))
        self.assertEqual(order(board), [1, 5, 7, 0, 2, 4, 3, 6])
        board.put(parted(-1, 9))
        self.assertEqual(order(board), [8, 1, 5, 7, 0, 2, 4, 3, 6])

    def test_behind_peers_that_were_exchanged(self):
        board = board_of(PARTED, [parted(0, 5), parted(0, 5)])
        board.exchange("day", 0, 1)
        board.put(parted(0, 5))
        self.assertEqual(order(board), [1, 0, 2])

    def test_a_falling_sort(self):
        board = board_of(FALLING, [{"shop": 0, "points": points, "price": 0} for points in [3, 5, 3, 4, 5]])
        self.assertEqual(order(board, "best"), [1, 4, 3, 0, 2])

    def test_bad_rows(self):
        board = board_of(PARTED, [parted(0, 0), parted(0, 1)])
        for row, column in [
            ({}, "shop"), (parted(0, 0, True), "price"), (parted(0, 0, 0, 2), "paid"), ({**parted(0, 0), "x": 1}, "x"),
            (parted(0, None), "date"), (parted(10 ** 12 + 1, 0), "shop"), ({**parted(0, "1"), "a": 1}, "date"),
        ]:
            with self.assertRaises(BadRow) as caught:
                board.put(row)
            self.assertEqual((caught.exception.number, caught.exception.column), (2, column))
            with self.assertRaises(BadRow) as caught:
                Board(PARTED).put(row)
            self.assertEqual((caught.exception.number, caught.exception.column), (0, column))
            self.assertEqual(len(board), 2)
            self.assertEqual(order(board), [0, 1])

    def test_sixty_rows(self):
        rows = random_rows(random.Random(60), THREE_SORTS, 60)
        board = board_of(THREE_SORTS, rows)
        self.assertEqual([board[at] for at in range(60)], rows)
        self.assertTrue(board.current_lay() == first_lay(Table(THREE_SORTS, rows)))


class Take(unittest.TestCase):
    def test_later_numbers_become_smaller(self):
        rows = [parted(0, date) for date in [5, 3, 5, 4, 5]]
        board = board_of(PARTED, rows)
        board.exchange("day", 2, 4)
        self.assertEqual(order(board), [1, 3, 0, 4, 2])
        self.assertIsNone(board.take(1))
        self.assertEqual(order(board), [2, 0, 3, 1])
        self.assertEqual([board[at] for at in range(4)], [rows[0], rows[2], rows[3], rows[4]])
        board.take(3)
        self.assertEqual(order(board), [2, 0, 1])
        board.take(0)
        self.assertEqual(order(board), [1, 0])
        board.take(0)
        board.take(0)
        self.assertEqual((len(board), order(board)), (0, []))

    def test_all_lists(self):
        rows = [{column: 0 for column in THREE_SORTS.columns()}] * 4
        board = board_of(THREE_SORTS, rows)
        board.exchange("day", 0, 1)
        board.exchange("best", 2, 3)
        board.exchange("town", 1, 2)
        board.take(1)
        self.assertEqual([order(board, sort) for sort in ["day", "best", "town"]], [[0, 1, 2], [0, 2, 1], [0, 1, 2]])

    def test_numbers_that_do_not_exist(self):
        board = board_of(PARTED, [parted(0, 0), parted(0, 1)])
        for at in [-1, -2, 2, 3, 10 ** 15]:
            with self.assertRaises(BadNumber) as caught:
                board.take(at)
            self.assertEqual(caught.exception.number, at)
        self.assertEqual(len(board), 2)
        with self.assertRaises(BadNumber):
            Board(PARTED).take(0)


class Assignment(unittest.TestCase):
    def test_a_row_keeps_its_place(self):
        board = board_of(PARTED, [parted(0, 5), parted(0, 5), parted(0, 5)])
        board[0] = parted(0, 5, 7, 1)
        self.assertEqual(order(board), [0, 1, 2])
        self.assertEqual(board[0], parted(0, 5, 7, 1))
        board[1] = parted(0, 5)
        self.assertEqual(order(board), [0, 1, 2])

    def test_another_key(self):
        board = board_of(PARTED, [parted(0, 5), parted(0, 5), parted(0, 6), parted(0, 6)])
        board[0] = parted(0, 6)
        self.assertEqual(order(board), [1, 2, 3, 0])
        board[0] = parted(0, 5)
        self.assertEqual(order(board), [1, 0, 2, 3])
        board[2] = parted(0, 4)
        self.assertEqual(order(board), [2, 1, 0, 3])
        board[2] = parted(0, 9)
        self.assertEqual(order(board), [1, 0, 3, 2])

    def test_another_part(self):
        board = board_of(PARTED, [parted(0, 5), parted(1, 5), parted(1, 5)])
        board[0] = parted(1, 5)
        self.assertEqual(order(board), [1, 2, 0])
        board[1] = parted(0, 5)
        self.assertEqual(order(board), [1, 2, 0])
        board[2] = parted(-3, 5)
        self.assertEqual(order(board), [2, 1, 0])

    def test_a_key_that_changes_without_passing_another_row(self):
        board = board_of(PARTED, [parted(0, 5), parted(0, 7)])
        board[0] = parted(0, 7)
        self.assertEqual(order(board), [1, 0])
        board[0] = parted(0, 6)
        self.assertEqual(order(board), [0, 1])

    def test_each_sort_by_itself(self):
        """The sorts are: day by date in each shop, best by points falling, town by size falling in each town."""
        empty = {column: 0 for column in THREE_SORTS.columns()}
        for changes, expected in [
            ({}, [[0, 1, 2], [0, 1, 2], [0, 1, 2]]), ({"price": 4, "cost": 5}, [[0, 1, 2], [0, 1, 2], [0, 1, 2]]),
            ({"paid": 1, "late": 1}, [[0, 1, 2], [0, 1, 2], [0, 1, 2]]),
            ({"date": 1}, [[1, 2, 0], [0, 1, 2], [0, 1, 2]]), ({"date": -1}, [[0, 1, 2], [0, 1, 2], [0, 1, 2]]),
            ({"shop": 1}, [[1, 2, 0], [0, 1, 2], [0, 1, 2]]), ({"points": 1}, [[0, 1, 2], [0, 1, 2], [0, 1, 2]]),
            ({"points": -1}, [[0, 1, 2], [1, 2, 0], [0, 1, 2]]), ({"size": -1}, [[0, 1, 2], [0, 1, 2], [1, 2, 0]]),
            ({"town": 1}, [[0, 1, 2], [0, 1, 2], [1, 2, 0]]), ({"size": 1, "town": -1}, [[0, 1, 2]] * 3),
            ({"date": 1, "points": -1, "size": -1}, [[1, 2, 0]] * 3),
        ]:
            board = board_of(THREE_SORTS, [empty] * 3)
            board[0] = {**empty, **changes}
            self.assertEqual([order(board, sort) for sort in ["day", "best", "town"]], expected)
            self.assertEqual([board[at] for at in range(3)], [{**empty, **changes}, empty, empty])

    def test_there_and_back(self):
        board = board_of(PARTED, [parted(0, 5), parted(0, 5)])
        board[0] = parted(0, 6)
        board[0] = parted(0, 5)
        self.assertEqual(order(board), [1, 0])

    def test_numbers_that_do_not_exist_come_first(self):
        board = board_of(PARTED, [parted(0, 0), parted(0, 1)])
        for at in [-1, -2, 2, 10 ** 15]:
            for row in [parted(0, 0), {}, parted(0, True)]:
                with self.assertRaises(BadNumber) as caught:
                    board[at] = row
                self.assertEqual(caught.exception.number, at)

    def test_bad_rows(self):
        board = board_of(PARTED, [parted(0, 0), parted(0, 1), parted(0, 2)])
        for at in range(3):
            for row, column in [({}, "shop"), (parted(0, 0, 0, -1), "paid"), ({**parted(0, 0), "x": 1}, "x")]:
                with self.assertRaises(BadRow) as caught:
                    board[at] = row
                self.assertEqual((caught.exception.number, caught.exception.column), (at, column))
        self.assertEqual([board[at] for at in range(3)], [parted(0, at) for at in range(3)])


class Exchange(unittest.TestCase):
    def test_both_orders_of_the_arguments(self):
        board = board_of(PARTED, [parted(0, 5), parted(0, 5), parted(0, 5)])
        self.assertIsNone(board.exchange("day", 0, 1))
        self.assertEqual(order(board), [1, 0, 2])
        board.exchange("day", 2, 0)
        self.assertEqual(order(board), [1, 2, 0])

    def test_one_sort_only(self):
        board = board_of(THREE_SORTS, [{column: 0 for column in THREE_SORTS.columns()}] * 3)
        board.exchange("best", 1, 2)
        self.assertEqual([order(board, sort) for sort in ["day", "best", "town"]], [[0, 1, 2], [0, 2, 1], [0, 1, 2]])

    def test_errors_in_their_order(self):
        board = board_of(PARTED, [parted(0, 5), parted(0, 5), parted(0, 5), parted(1, 5)])
        with self.assertRaises(UnknownSort) as caught:
            board.exchange("date", 9, 0)
        self.assertEqual(caught.exception.name, "date")
        for row, other, bad in [(9, -1, 9), (0, -1, -1), (4, 0, 4), (-1, 9, -1)]:
            with self.assertRaises(BadNumber) as caught:
                board.exchange("day", row, other)
            self.assertEqual(caught.exception.number, bad)
        for row, other in [(0, 2), (2, 3), (0, 0), (3, 2), (2, 0)]:
            with self.assertRaises(NotPeers) as caught:
                board.exchange("day", row, other)
            self.assertEqual((caught.exception.row, caught.exception.other), (row, other))
        self.assertEqual(order(board), [0, 1, 2, 3])


class Operators(unittest.TestCase):
    def setUp(self):
        self.rows = [parted(0, 5, 1), parted(1, 3, 2), parted(0, 5, 1)]
        self.board = board_of(PARTED, self.rows)

    def test_rows_and_length(self):
        self.assertEqual(len(self.board), 3)
        for at, row in enumerate(self.rows):
            self.assertEqual(self.board[at], row)
            self.assertIs(type(self.board[at]), dict)

    def test_numbers_that_do_not_exist(self):
        for at in [-1, -3, 3, 4, 10 ** 15]:
            with self.assertRaises(BadNumber) as caught:
                self.board[at]
            self.assertEqual(caught.exception.number, at)

    def test_in(self):
        for row in self.rows:
            self.assertIs(row in self.board, True)
            self.assertIs({column: row[column] for column in reversed(list(row))} in self.board, True)
        for row in [parted(0, 5, 2), parted(0, 5), {}, {"shop": 0}, {**self.rows[0], "x": 1}]:
            self.assertIs(row in self.board, False)
            self.assertIs(row not in self.board, True)
        for other in [0, 1, None, "shop", [], self.rows, (0, 5, 1, 0), self.board, self.board.current_lay()]:
            self.assertIs(other in self.board, False)
        self.assertIs({} in Board(PARTED), False)

    def test_in_after_changes(self):
        self.board.take(1)
        self.assertIs(self.rows[1] in self.board, False)
        self.assertIs(self.rows[0] in self.board, True)
        self.board[0] = parted(4, 4)
        self.assertIs(self.rows[0] in self.board, True)
        self.assertIs(parted(4, 4) in self.board, True)
        self.board.take(1)
        self.assertIs(self.rows[0] in self.board, False)

    def test_iterating(self):
        for board in [self.board, Board(PARTED)]:
            with self.assertRaises(TypeError):
                iter(board)
            with self.assertRaises(TypeError):
                list(board)
            with self.assertRaises(TypeError):
                for _ in board:
                    self.fail("iterated")
            with self.assertRaises(TypeError):
                sorted(board)

    def test_current_lay_does_not_change_later(self):
        lay = self.board.current_lay()
        expected = Lay(Table(PARTED, self.rows), {"day": [0, 2, 1]})
        self.assertTrue(lay == expected)
        self.board.exchange("day", 0, 2)
        self.board.put(parted(9, 9))
        self.board[0] = parted(8, 8)
        self.assertTrue(lay == expected)
        self.assertFalse(self.board.current_lay() == expected)


class Copies(unittest.TestCase):
    def test_handed_dicts(self):
        row, other = parted(0, 5), parted(0, 6)
        board = board_of(PARTED, [row])
        board.put(other)
        board[0] = row
        kept = dict(row)
        row["date"] = 77
        other.clear()
        self.assertEqual([board[0], board[1]], [kept, parted(0, 6)])
        self.assertEqual(order(board), [0, 1])

    def test_told_dicts_and_lists(self):
        board = board_of(PARTED, [parted(0, 5), parted(0, 5)])
        board.show("a", number(3))
        board[0]["date"] = 99
        board[1].clear()
        board.names().clear()
        board.shown("a").append(4)
        order(board).reverse()
        self.assertEqual([board[0], board[1]], [parted(0, 5)] * 2)
        self.assertEqual((board.names(), board.shown("a"), order(board)), (["a"], [3, 3], [0, 1]))

    def test_boards_do_not_share(self):
        first, second = board_of(PARTED, [parted(0, 5)]), Board(PARTED)
        first.show("a", number(3))
        self.assertEqual((len(second), second.names()), (0, []))
        with self.assertRaises(NothingToUndo):
            second.undo()

    def test_equal_boards_are_made_in_the_same_way(self):
        rows = random_rows(random.Random(3), THREE_SORTS, 8, 1)
        first, second = board_of(THREE_SORTS, rows), board_of(THREE_SORTS, rows)
        self.assertTrue(first.current_lay() == second.current_lay())


class Shown(unittest.TestCase):
    def setUp(self):
        self.board = board_of(PARTED, [parted(0, 5, 10), parted(0, 3, 20), parted(1, 4, 40)])

    def test_show_and_replace(self):
        self.assertIsNone(self.board.show("a", running("price", "day")))
        self.assertTrue(self.board.formula("a") == running("price", "day"))
        self.assertEqual(self.board.shown("a"), [30, 20, 40])
        self.assertIsNone(self.board.show("a", total("price", "day")))
        self.assertEqual(self.board.names(), ["a"])
        self.assertTrue(self.board.formula("a") == total("price", "day"))
        self.assertEqual(self.board.shown("a"), [30, 30, 40])

    def test_answers_follow_the_rows(self):
        self.board.show("sum", running("price", "day"))
        self.board.show("next", shifted("price", "day", 1))
        self.board.put(parted(0, 3, 80))
        self.assertEqual(self.board.shown("sum"), [110, 20, 40, 100])
        self.assertEqual(self.board.shown("next"), [0, 80, 0, 10])
        self.board.exchange("day", 1, 3)
        self.assertEqual(self.board.shown("sum"), [110, 100, 40, 80])
        self.board[0] = parted(1, 4, 10)
        self.assertEqual(self.board.shown("sum"), [50, 100, 40, 80])
        self.board.take(2)
        self.assertEqual(self.board.shown("sum"), [10, 100, 80])
        for _ in range(3):
            self.board.take(0)
        self.assertEqual(self.board.shown("sum"), [])
        self.assertIs(type(self.board.shown("sum")), list)

    def test_against_answers(self):
        dice = random.Random(43)
        for scheme in SCHEMES:
            board = board_of(scheme, random_rows(dice, scheme, 7, 1))
            for at in range(5):
                formula = formula_with(at, random_terms(dice, scheme, at))
                board.show("f", formula)
                board.put(random_row(dice, scheme, 1))
                self.assertEqual(board.shown("f"), answers(board.current_lay(), formula))

    def test_hide(self):
        self.board.show("a", number(1))
        self.board.show("b", number(2))
        self.assertIsNone(self.board.hide("a"))
        self.assertEqual(self.board.names(), ["b"])
        for call in [self.board.hide, self.board.formula, self.board.shown]:
            with self.assertRaises(NoSuchName) as caught:
                call("a")
            self.assertEqual(caught.exception.name, "a")
        self.board.show("a", number(3))
        self.assertEqual(self.board.shown("a"), [3, 3, 3])

    def test_names_that_are_not_shown(self):
        self.board.show("a", number(1))
        for name in ["", "b", "A", "aa", " a"]:
            for call in [self.board.hide, self.board.formula, self.board.shown]:
                with self.assertRaises(NoSuchName) as caught:
                    call(name)
                self.assertEqual(caught.exception.name, name)
        self.assertEqual(self.board.names(), ["a"])

    def test_any_strings_are_names(self):
        names = ["", " ", "rows", "a b", "Z", "a", "abcdefghijklmnop", "0", "day", "~", "a" * 500]
        for at, name in enumerate(names):
            self.board.show(name, number(at))
        self.assertEqual(self.board.names(), sorted(names))
        self.assertIs(type(self.board.names()), list)
        for at, name in enumerate(names):
            self.assertEqual(self.board.shown(name), [at] * 3)
            self.assertTrue(self.board.formula(name) == number(at))
        for name in names:
            self.board.hide(name)
        self.assertEqual(self.board.names(), [])

    def test_formulas_that_do_not_fit(self):
        self.board.show("a", number(1))
        for formula, error, name in [
            (count_of("best", every()), UnknownSort, "best"), (sum_of("cost", "day", every()), UnknownColumn, "cost"),
            (sum_of("aaa", "zzz", every()) + count_of("yyy", every()), UnknownSort, "yyy"),
            (count_of("day", own_row(), barred=["void", "price"]), UnknownColumn, "price"),
        ]:
            for shown in ["a", "b"]:
                with self.assertRaises(error) as caught:
                    self.board.show(shown, formula)
                self.assertEqual(caught.exception.name, name)
        self.assertEqual(self.board.names(), ["a"])
        self.assertTrue(self.board.formula("a") == number(1))

    def test_the_formula_stays_as_it_is(self):
        formula = row_number("day")
        self.board.show("a", formula)
        formula += 5
        self.assertTrue(self.board.formula("a") == row_number("day"))


if __name__ == "__main__":
    unittest.main()
