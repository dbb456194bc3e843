"""Promises 44 and 45, and promise 2 for them."""

import random
import unittest

from board_model import Model, carry_out, check_board, check_history, random_deed
from table_samples import PARTED, SCHEMES, THREE_SORTS, formula_with, random_terms
from windowrows.boards import Board, tried
from windowrows.errors import (
    BadNumber, BadRow, NoSuchName, NotPeers, NothingToRedo, NothingToUndo, UnknownColumn, UnknownSort,
)
from windowrows.formulas import count_of, number, sum_of
from windowrows.named import running, total
from windowrows.regions import every


class Halt(Exception):
    """An error that is none of the program."""


def parted(date, price=0, shop=0):
    return {"shop": shop, "date": date, "price": price, "paid": 0}


def a_board_and_its_model():
    """Return a board with changes that can be undone and redone, and a model of it."""
    board, model = Board(PARTED), Model(PARTED)
    for word, arguments in [
        ("put", (parted(5, 1),)), ("put", (parted(5, 2),)), ("show", ("a", running("price", "day"))),
        ("put", (parted(5, 4),)), ("exchange", ("day", 0, 1)), ("set", (2, parted(4, 8))), ("take", (0,)),
        ("show", ("b", number(3))), ("hide", ("b",)), ("undo", ()), ("undo", ()),
    ]:
        carry_out(board, word, arguments)
        carry_out(model, word, arguments)
    return board, model


DEEDS = [
    ("put", (parted(5, 16),)), ("take", (1,)), ("set", (0, parted(9, 32))), ("set", (1, parted(5, 7))),
    ("exchange", ("day", 0, 1)), ("show", ("a", total("price", "day"))), ("show", ("c", number(1))), ("hide", ("a",)),
]
BAD_DEEDS = [
    ("put", ({},), BadRow), ("take", (9,), BadNumber), ("set", (9, {}), BadNumber), ("set", (0, {}), BadRow),
    ("exchange", ("day", 0, 0), NotPeers), ("exchange", ("day", 0, 9), BadNumber), ("exchange", ("no", 0, 1), UnknownSort),
    ("show", ("a", count_of("no", every())), UnknownSort), ("show", ("c", sum_of("no", "day", every())), UnknownColumn),
    ("hide", ("c",), NoSuchName), ("formula", ("c",), NoSuchName), ("shown", ("c",), NoSuchName),
]


def ready_board():
    """Return a board with two peers and a shown formula, on which all DEEDS can be made, and its model."""
    board, model = Board(PARTED), Model(PARTED)
    for word, arguments in [
        ("put", (parted(5, 1),)), ("put", (parted(5, 2),)), ("show", ("a", running("price", "day"))),
    ]:
        carry_out(board, word, arguments)
        carry_out(model, word, arguments)
    return board, model


class UndoAndRedo(unittest.TestCase):
    def test_each_kind_of_change(self):
        for word, arguments in DEEDS:
            board, model = ready_board()
            carry_out(board, word, arguments)
            after = Model(PARTED)
            after.restore(model.state())
            carry_out(after, word, arguments)
            for _ in range(3):
                check_board(self, board, after)
                self.assertIsNone(board.undo())
                check_board(self, board, model)
                self.assertIsNone(board.redo())
            check_board(self, board, after)

    def test_changes_that_changed_nothing(self):
        for word, arguments in [
            ("set", (0, parted(5, 1))), ("show", ("a", running("price", "day"))),
        ]:
            board, model = ready_board()
            carry_out(board, word, arguments)
            carry_out(model, word, arguments)
            check_board(self, board, model)
            board.undo()
            model.undo()
            self.assertEqual(board.names(), ["a"])
            board.undo()
            model.undo()
            self.assertEqual(board.names(), [])
            board.redo()
            board.redo()
            model.redo()
            model.redo()
            check_history(self, board, model)

    def test_two_exchanges_that_cancel_out(self):
        board, _ = ready_board()
        board.exchange("day", 0, 1)
        board.exchange("day", 0, 1)
        for expected in [[1, 0], [0, 1]]:
            board.undo()
            self.assertEqual(board.current_lay().order("day"), expected)
        board.undo()
        self.assertEqual(board.names(), [])

    def test_everything_against_the_model(self):
        for seed in range(30):
            dice = random.Random(seed)
            scheme = SCHEMES[seed % len(SCHEMES)]
            board, model = Board(scheme), Model(scheme)
            formulas = [formula_with(at, random_terms(dice, scheme, at)) for at in range(3)]
            for _ in range(50):
                self.one_step(dice, board, model, formulas)
                check_board(self, board, model)
            check_history(self, board, model)

    def one_step(self, dice, board, model, formulas):
        word = dice.choice(["change", "change", "undo", "undo", "redo"])
        if word == "undo":
            if not model.past:
                self.assertRaises(NothingToUndo, board.undo)
                return
            board.undo()
            model.undo()
        elif word == "redo":
            if not model.future:
                self.assertRaises(NothingToRedo, board.redo)
                return
            board.redo()
            model.redo()
        else:
            deed, arguments = random_deed(dice, model, ["a", "b"], formulas)
            carry_out(model, deed, arguments)
            carry_out(board, deed, arguments)

    def test_errors_are_no_changes(self):
        for word, arguments, error in BAD_DEEDS:
            board, model = a_board_and_its_model()
            with self.assertRaises(error):
                carry_out(board, word, arguments)
            check_history(self, board, model)

    def test_questions_are_no_changes(self):
        board, model = a_board_and_its_model()
        board.formula("a")
        board.shown("a")
        board.names()
        board.current_lay()
        len(board)
        board[0]
        self.assertIn(parted(5, 2), board)
        check_history(self, board, model)

    def test_a_new_change_clears_what_can_be_made_again(self):
        for word, arguments in DEEDS:
            board, model = ready_board()
            board.put(parted(1, 1))
            board.undo()
            carry_out(board, word, arguments)
            with self.assertRaises(NothingToRedo):
                board.redo()
            carry_out(model, word, arguments)
            check_history(self, board, model)

    def test_errors_do_not_clear_it(self):
        for word, arguments, error in BAD_DEEDS:
            board, _ = ready_board()
            board.put(parted(1, 1))
            board.undo()
            with self.assertRaises(error):
                carry_out(board, word, arguments)
            board.redo()
            self.assertEqual(len(board), 3)

    def test_nothing_to_undo_or_redo(self):
        board = Board(PARTED)
        for _ in range(2):
            self.assertRaises(NothingToUndo, board.undo)
            self.assertRaises(NothingToRedo, board.redo)
        board.put(parted(1))
        self.assertRaises(NothingToRedo, board.redo)
        board.undo()
        self.assertRaises(NothingToUndo, board.undo)
        board.redo()
        self.assertRaises(NothingToRedo, board.redo)
        self.assertEqual(len(board), 1)

    def test_lists_of_the_sorts_come_back(self):
        board = Board(THREE_SORTS)
        row = {column: 0 for column in THREE_SORTS.columns()}
        for _ in range(3):
            board.put(row)
        board.exchange("best", 0, 1)
        board.exchange("town", 1, 2)
        before = board.current_lay()
        board.take(0)
        board[0] = {**row, "points": -4, "size": 3}
        board.put(row)
        for _ in range(3):
            board.undo()
        self.assertTrue(board.current_lay() == before)
        self.assertEqual(board.current_lay().order("best"), [1, 0, 2])
        self.assertEqual(board.current_lay().order("town"), [0, 2, 1])

    def test_formulas_come_back(self):
        board, _ = ready_board()
        board.show("a", number(7))
        board.hide("a")
        board.undo()
        self.assertTrue(board.formula("a") == number(7))
        board.undo()
        self.assertTrue(board.formula("a") == running("price", "day"))
        board.undo()
        self.assertEqual(board.names(), [])
        board.redo()
        self.assertEqual(board.shown("a"), [1, 3])

    def test_many_changes(self):
        board = Board(PARTED)
        for at in range(300):
            board.show("a", number(at))
        for at in reversed(range(299)):
            board.undo()
            self.assertEqual(board.formula("a").constant, at)
        board.undo()
        self.assertEqual(board.names(), [])
        for at in range(300):
            board.redo()
        self.assertEqual(board.formula("a").constant, 299)


class Trials(unittest.TestCase):
    def test_the_board_itself_is_bound(self):
        board, model = a_board_and_its_model()
        with board.trial() as trying:
            self.assertIs(trying, board)
            board.put(parted(1, 1))
            self.assertEqual(len(trying), len(model.rows) + 1)
        check_history(self, board, model)

    def test_each_kind_of_change(self):
        for word, arguments in [*DEEDS, ("undo", ()), ("redo", ())]:
            board, model = ready_board()
            for changed in (board, model):
                carry_out(changed, "put", (parted(7),))
                carry_out(changed, "undo", ())
            with board.trial() as trying:
                carry_out(trying, word, arguments)
            check_history(self, board, model)

    def test_blocks_that_end_by_an_error(self):
        for word, arguments, error in BAD_DEEDS:
            board, model = a_board_and_its_model()
            with self.assertRaises(error):
                with board.trial() as trying:
                    trying.put(parted(1, 1))
                    trying.show("a", number(9))
                    trying.undo()
                    carry_out(trying, word, arguments)
            check_history(self, board, model)

    def test_errors_that_are_none_of_the_program(self):
        board, model = a_board_and_its_model()
        halt = Halt("enough")
        with self.assertRaises(Halt) as caught:
            with board.trial() as trying:
                trying.take(0)
                raise halt
        self.assertIs(caught.exception, halt)
        check_history(self, board, model)

    def test_leaving_a_block_early(self):
        board, model = a_board_and_its_model()
        for _ in range(2):
            with board.trial():
                board.put(parted(3))
                continue
        self.assertEqual(self.leave(board), len(model.rows) + 1)
        check_history(self, board, model)

    def leave(self, board):
        with board.trial() as trying:
            trying.put(parted(3))
            return len(trying)

    def test_undo_and_redo_beyond_where_it_began(self):
        board, model = a_board_and_its_model()
        with board.trial() as trying:
            for _ in range(4):
                trying.undo()
            trying.put(parted(0, 5))
            trying.undo()
            trying.undo()
        check_history(self, board, model)
        with board.trial() as trying:
            while len(trying):
                trying.undo()
            self.assertRaises(NothingToUndo, trying.undo)
        check_history(self, board, model)
        with board.trial() as trying:
            trying.redo()
            trying.redo()
            self.assertRaises(NothingToRedo, trying.redo)
        check_history(self, board, model)

    def test_one_within_another(self):
        board, model = a_board_and_its_model()
        count = len(board)
        with board.trial() as trying:
            trying.put(parted(1))
            trying.put(parted(2))
            trying.undo()
            with self.assertRaises(Halt):
                with trying.trial() as deeper:
                    self.assertIs(deeper, board)
                    deeper.undo()
                    deeper.undo()
                    deeper.show("z", number(1))
                    raise Halt()
            self.assertEqual(len(trying), count + 1)
            self.assertNotIn("z", trying.names())
            trying.redo()
            self.assertEqual(len(trying), count + 2)
            with trying.trial():
                trying.take(0)
            self.assertEqual(len(trying), count + 2)
            trying.undo()
            trying.undo()
            self.assertEqual(len(trying), count)
        check_history(self, board, model)

    def test_two_boards(self):
        (first, model), (second, other_model) = a_board_and_its_model(), ready_board()
        with first.trial() as one, second.trial() as other:
            one.take(0)
            other.put(parted(8))
            other.undo()
            other.undo()
        check_history(self, first, model)
        check_history(self, second, other_model)

    def test_the_block_begins_where_it_is_entered(self):
        board, model = a_board_and_its_model()
        trial = board.trial()
        for changed in (board, model):
            carry_out(changed, "put", (parted(6, 6),))
        with trial as trying:
            trying.undo()
            trying.put(parted(0))
        check_history(self, board, model)

    def test_changes_after_a_trial(self):
        board, model = a_board_and_its_model()
        with board.trial() as trying:
            trying.put(parted(1))
        for word, arguments in [("put", (parted(5, 3),)), ("undo", ()), ("undo", ())]:
            carry_out(board, word, arguments)
            carry_out(model, word, arguments)
        check_history(self, board, model)

    def test_against_the_model(self):
        for seed in range(15):
            dice = random.Random(seed)
            scheme = SCHEMES[seed % len(SCHEMES)]
            board, model = Board(scheme), Model(scheme)
            formulas = [formula_with(at, random_terms(dice, scheme, at)) for at in range(3)]
            for _ in range(10):
                deed, arguments = random_deed(dice, model, ["a", "b"], formulas)
                carry_out(model, deed, arguments)
                carry_out(board, deed, arguments)
            for _ in range(dice.randrange(4)):
                board.undo()
                model.undo()
            inner = Model(scheme)
            inner.restore(model.state())
            with board.trial() as trying:
                for _ in range(10):
                    deed, arguments = random_deed(dice, inner, ["a", "b"], formulas)
                    carry_out(inner, deed, arguments)
                    carry_out(trying, deed, arguments)
                    check_board(self, trying, inner)
            check_history(self, board, model)


class Tried(unittest.TestCase):
    def check(self, deeds, expected, name="a"):
        for kind in [list, tuple]:
            board, model = a_board_and_its_model()
            self.assertEqual(tried(board, kind(deeds), name), expected)
            check_history(self, board, model)

    def test_each_kind_of_deed(self):
        board, _ = a_board_and_its_model()
        self.assertEqual([board[at] for at in range(len(board))], [parted(5, 2), parted(4, 8)])
        self.check([], [10, 8])
        self.check([("put", parted(5, 16))], [10, 8, 26])
        self.check([("put", parted(4, 16))], [26, 8, 24])
        self.check([("take", 0)], [8])
        self.check([("set", 0, parted(3, 32))], [32, 40])
        self.check([("undo",)], [11, 10, 8])
        self.check([("redo",)], [10, 8])
        self.check([("put", parted(5, 16)), ("exchange", "day", 0, 2)], [26, 8, 24])

    def test_several_deeds(self):
        self.check([("take", 1), ("take", 0)], [])
        self.check([("take", 0), ("undo",), ("put", parted(4, 1)), ("undo",), ("redo",)], [11, 8, 9])
        self.check([("redo",), ("redo",), ("undo",)], [3] * 2, "b")
        self.check([("put", parted(4, 1)), ("exchange", "day", 2, 1), ("set", 0, parted(0, 100))], [100, 109, 101])

    def test_deeds_that_raise_errors(self):
        for deed, error in [
            (("put", {}), BadRow), (("take", 9), BadNumber), (("take", -1), BadNumber), (("set", 9, {}), BadNumber),
            (("set", 0, {}), BadRow), (("exchange", "day", 0, 0), NotPeers), (("exchange", "no", 9, 0), UnknownSort),
            (("exchange", "day", 9, 0), BadNumber),
        ]:
            for before in [[], [("put", parted(1)), ("take", 0)], [("undo",)]]:
                for after in [[], [("put", {}), ("take", 99)]]:
                    board, model = a_board_and_its_model()
                    deeds = before + [deed] + after
                    with self.assertRaises(error):
                        tried(board, deeds, "a")
                    with self.assertRaises(error):
                        tried(board, deeds, "no such name")
                    check_history(self, board, model)

    def test_what_the_errors_tell(self):
        board, model = a_board_and_its_model()
        with self.assertRaises(BadNumber) as caught:
            tried(board, [("put", parted(1)), ("take", 7), ("take", 8)], "a")
        self.assertEqual(caught.exception.number, 7)
        with self.assertRaises(BadRow) as caught:
            tried(board, [("put", parted(1)), ("put", {})], "a")
        self.assertEqual((caught.exception.number, caught.exception.column), (3, "shop"))
        check_history(self, board, model)

    def test_nothing_to_undo_or_redo(self):
        board, model = a_board_and_its_model()
        with self.assertRaises(NothingToUndo):
            tried(board, [("undo",)] * 50, "a")
        with self.assertRaises(NothingToRedo):
            tried(board, [("redo",)] * 50, "a")
        with self.assertRaises(NothingToRedo):
            tried(board, [("put", parted(1)), ("redo",)], "a")
        check_history(self, board, model)

    def test_names_that_are_not_shown(self):
        for deeds in [[], [("put", parted(1))], [("undo",)]]:
            board, model = a_board_and_its_model()
            with self.assertRaises(NoSuchName) as caught:
                tried(board, deeds, "b")
            self.assertEqual(caught.exception.name, "b")
            check_history(self, board, model)

    def test_a_name_that_is_shown_by_a_deed_only(self):
        self.check([("redo",)], [3, 3], "b")
        board, model = a_board_and_its_model()
        with self.assertRaises(NoSuchName):
            tried(board, [("redo",), ("redo",)], "b")
        with self.assertRaises(NoSuchName):
            tried(board, [("undo",)] * 6, "a")
        check_history(self, board, model)

    def test_within_a_trial(self):
        board, model = a_board_and_its_model()
        with board.trial() as trying:
            trying.put(parted(5, 16))
            self.assertEqual(tried(trying, [("take", 0)], "a"), [8, 24])
            self.assertEqual(trying.shown("a"), [10, 8, 26])
        check_history(self, board, model)

    def test_arguments_stay_as_they_are(self):
        board, _ = a_board_and_its_model()
        row = parted(5, 16)
        deeds = [("put", row), ("take", 0)]
        told = tried(board, deeds, "a")
        self.assertEqual(deeds, [("put", parted(5, 16)), ("take", 0)])
        told.append(7)
        self.assertEqual(tried(board, deeds, "a"), [8, 24])


if __name__ == "__main__":
    unittest.main()
