"""Promise 65: the desk and its lines; promises 2 and 4 for it."""

import random
import unittest

from table_samples import ONE_SORT, PARTED, THREE_SORTS
from windowrows.answers import answers
from windowrows.desk import Desk
from windowrows.errors import (
    BadLine, BadNumber, BadRow, BadText, NoSuchName, NotPeers, NothingToRedo, NothingToUndo, SeveralSorts,
    UnknownColumn, UnknownSort, WindowError,
)
from windowrows.formulatext import read_formula
from windowrows.lays import first_lay
from windowrows.schemes import Scheme, Sort
from windowrows.tables import Table

FREE = Scheme([Sort("day", "date"), Sort("best", "points", descending=True)], values=["price"], marks=["paid"])
# Names that are words of the desk, of formulas of the document or of lines.
WORDS = ["put", "set", "take", "show", "hide", "ask", "undo", "redo", "alike", "settled", "most", "exchange", "done", "row"]


class Checks(unittest.TestCase):
    def setUp(self):
        self.desk = Desk(PARTED)

    def say(self, line, expected):
        found = self.desk.say(line)
        self.assertEqual(found, expected)
        self.assertIs(type(found), str)

    def say_all(self, *pairs):
        for line, expected in pairs:
            self.say(line, expected)

    def fails(self, line, error, **fields):
        """Check an error and that it changes nothing that the desk shows."""
        before = self.seen()
        with self.assertRaises(error) as caught:
            self.desk.say(line)
        self.assertIs(type(caught.exception), error)
        for name, value in fields.items():
            self.assertEqual(getattr(caught.exception, name), value)
        self.assertEqual(self.seen(), before)

    def seen(self):
        """Return what the desk answers under the names that the tests use."""
        found = []
        for name in ["a", "b", "c", *WORDS]:
            try:
                found.append(self.desk.say(f"ask {name}"))
            except NoSuchName:
                found.append(None)
        return found

    def put(self, *rows):
        """Put rows of PARTED: (shop, date, price, paid)."""
        for shop, date, price, paid in rows:
            self.desk.say(f"put shop={shop} date={date} price={price} paid={paid}")


class Rows(Checks):
    def test_put(self):
        self.say_all(
            ("put shop=0 date=3 price=10 paid=1", "row 0"),
            ("put price=-7 date=3 paid=0 shop=0", "row 1"),
            ("  put   shop=0    date=2 price=1000000000000 paid=0  ", "row 2"),
            ("show a sum(price; by day; rows ..0)", "done"),
            ("ask a", "1000000000010 1000000000003 1000000000000"),
            ("put shop=1 date=-1000000000000 price=0 paid=1", "row 3"),
            ("ask a", "1000000000010 1000000000003 1000000000000 0"),
        )

    def test_set(self):
        self.put((0, 1, 5, 0), (0, 1, 6, 0), (1, 1, 7, 1))
        self.say_all(
            ("show a sum(price; by day; rows ..0)", "done"),
            ("ask a", "5 11 7"),
            ("set 0 price=50", "row 0"),
            ("ask a", "50 56 7"),
            ("set 0 shop=0 date=1", "row 0"),
            ("ask a", "50 56 7"),
            ("set 0 date=2", "row 0"),
            ("ask a", "56 6 7"),
            ("set 0 date=1", "row 0"),
            ("ask a", "56 6 7"),
            (" set  2  shop=0  date=0 paid=0 ", "row 2"),
            ("ask a", "63 13 7"),
            ("show b count(by day; all; paid)", "done"),
            ("ask b", "0 0 0"),
        )

    def test_take(self):
        self.put((0, 1, 5, 0), (0, 1, 6, 0), (1, 1, 7, 1))
        self.say_all(
            ("show a sum(price; by day; all)", "done"), ("take 0", "rows 2"), ("ask a", "6 7"), ("take 1", "rows 1"),
            ("ask a", "6"), (" take   0 ", "rows 0"), ("ask a", "none"), ("put shop=3 date=1 price=9 paid=1", "row 0"),
            ("ask a", "9"),
        )

    def test_exchange(self):
        self.put((0, 1, 5, 0), (0, 1, 6, 0), (0, 1, 7, 1))
        self.say_all(
            ("show a count(by day; rows ..0)", "done"), ("ask a", "1 2 3"), ("exchange day 0 1", "done"), ("ask a", "2 1 3"),
            ("exchange  day  2  0", "done"), ("ask a", "3 1 2"), ("exchange day 0 2", "done"), ("ask a", "2 1 3"),
        )

    def test_unknown_columns(self):
        self.put((0, 1, 5, 0))
        self.fails("put nope=1", UnknownColumn, name="nope")
        self.fails("put shop=1 date=1 price=2 paid=1 more=4", UnknownColumn, name="more")
        self.fails("put shop=1 nope=1 gone=2", UnknownColumn, name="nope")
        self.fails("put gone=1 nope=1", UnknownColumn, name="gone")
        self.fails("put shop=1 day=9 paid=7", UnknownColumn, name="day")
        self.fails("set 0 nope=1 price=2", UnknownColumn, name="nope")
        self.fails("set 7 price=1 nope=2 gone=3", UnknownColumn, name="nope")
        self.fails("set -1 gone=2", UnknownColumn, name="gone")

    def test_rows_that_do_not_fit(self):
        self.put((0, 1, 5, 0))
        self.fails("put date=1", BadRow, number=1, column="shop")
        self.fails("put shop=1 price=2 paid=5", BadRow, number=1, column="date")
        self.fails("put shop=1 date=3 price=2 paid=5", BadRow, number=1, column="paid")
        self.fails("put shop=1 date=1000000000001 price=2 paid=-1", BadRow, number=1, column="date")
        self.fails("set 0 paid=2", BadRow, number=0, column="paid")
        self.fails("set 0 price=-9999999999999 paid=2", BadRow, number=0, column="price")

    def test_numbers_that_do_not_exist(self):
        self.put((0, 1, 5, 0), (0, 1, 6, 0))
        for number in [2, -1, 99, 9999999999999, -9999999999999]:
            self.fails(f"take {number}", BadNumber, number=number)
            self.fails(f"set {number} price=1", BadNumber, number=number)
            self.fails(f"set {number} paid=8", BadNumber, number=number)
            self.fails(f"exchange day 0 {number}", BadNumber, number=number)
            self.fails(f"exchange day {number} 77", BadNumber, number=number)

    def test_exchanges_that_cannot_be(self):
        self.put((0, 1, 5, 0), (0, 1, 6, 0), (0, 1, 7, 0), (0, 2, 8, 0))
        self.fails("exchange best 0 1", UnknownSort, name="best")
        self.fails("exchange nope 9 9", UnknownSort, name="nope")
        self.fails("exchange day 0 2", NotPeers, row=0, other=2)
        self.fails("exchange day 3 2", NotPeers, row=3, other=2)
        self.fails("exchange day 1 1", NotPeers, row=1, other=1)


class Formulas(Checks):
    def test_show_hide_and_ask(self):
        self.put((0, 1, 5, 0), (0, 1, 6, 1))
        self.say_all(
            ("show a count(by day; all)", "done"), ("ask a", "2 2"), ("show a   7 - sum(price; by day; self)  ", "done"),
            ("ask a", "2 1"), ("  show   b    2*sum(price;by day;rows -1..0;not paid)-1", "done"), ("ask b", "9 9"),
            ("hide a", "done"), ("ask b", "9 9"), ("show c -4", "done"), ("ask c", "-4 -4"), (" hide  b ", "done"),
        )
        self.fails("ask a", NoSuchName, name="a")
        self.fails("ask b", NoSuchName, name="b")

    def test_answers_are_those_of_the_formula(self):
        dice = random.Random(65)
        rows = [
            {"shop": dice.randrange(2), "date": dice.randrange(3), "price": dice.randrange(-9, 10), "paid": dice.randrange(2)}
            for _ in range(8)
        ]
        for row in rows:
            self.desk.say("put " + " ".join(f"{column}={row[column]}" for column in dice.sample(list(row), 4)))
        lay = first_lay(Table(PARTED, rows))
        for text in [
            "count(by day; rows ..0)", "sum(price; by day; groups -1..1 - self; paid) + 3", "4", "-count(by day; ties; not paid)",
            "sum(price; by day; (keys -2..0 | rows 3..) & ~group) - 2 * count(by day; all)",
        ]:
            self.say(f"show a {text}", "done")
            self.say("ask a", " ".join(str(number) for number in answers(lay, read_formula(text))))

    def test_words_of_the_desk_as_names(self):
        self.put((0, 1, 5, 0))
        for index, word in enumerate(WORDS):
            self.say(f"show {word} {index}", "done")
        for index, word in enumerate(WORDS):
            self.say(f"ask {word}", str(index))
            self.say(f"alike {word} {word}", "alike")
            self.say(f"settled {word}", "settled")
            self.say(f"most {word}", str(index))
            self.say(f"hide {word}", "done")
            self.fails(f"ask {word}", NoSuchName, name=word)
        desk = Desk(Scheme([Sort("undo", "put")], values=["take"], marks=["ask"]))
        for line, expected in [
            ("put put=1 take=2 ask=0", "row 0"), ("put ask=1 take=3 put=1", "row 1"), ("exchange undo 0 1", "done"),
            ("show show sum(take; by undo; rows ..0; not ask)", "done"), ("ask show", "2 0"), ("set 1 put=0", "row 1"),
            ("ask show", "2 0"), ("set 1 ask=0", "row 1"), ("ask show", "5 3"),
        ]:
            self.assertEqual(desk.say(line), expected)

    def test_no_rows(self):
        self.say_all(("show a count(by day; all)", "done"), ("ask a", "none"), ("most a", "unbounded"), ("alike a a", "alike"))

    def test_bad_texts(self):
        for line, place in [
            ("show a x", 0), ("show a  count(by day; all) ) ", 19), ("show a 1 +", 3), ("show a     count by", 6),
            ("show a sum(price; by day; rows 2..1)", 24), ("  show   a   7  7", 3), ("show a count(by rows; all)", 9),
            ("show a count(by day; all; paid, paid)", 25), ("show a 12345678901234", 0), ("show a -", 1),
            ("show a A", 0), ("show show show", 0),
        ]:
            self.fails(line, BadText, place=place)

    def test_formulas_that_do_not_fit(self):
        self.say("show a 5", "done")
        self.fails("show a count(by town; all) + count(by best; all) + sum(nope; by day; all)", UnknownSort, name="best")
        self.fails("show a sum(nope; by day; all) + count(by day; all; not gone)", UnknownColumn, name="gone")
        self.say("alike a a", "alike")
        self.say("most a", "5")

    def test_names_that_are_not_shown(self):
        self.put((0, 1, 5, 0))
        self.say_all(("show a 1", "done"), ("show b 2", "done"))
        for line, name in [
            ("hide c", "c"), ("ask c", "c"), ("settled c", "c"), ("most c", "c"), ("alike c a", "c"), ("alike a c", "c"),
            ("alike x c", "x"), ("alike c x", "c"), ("alike c c", "c"), ("ask day", "day"),
        ]:
            self.fails(line, NoSuchName, name=name)


class Comparing(Checks):
    def test_alike(self):
        self.say_all(
            ("show a sum(price; by day; all)", "done"),
            ("show b sum(price; by day; all; paid) + sum(price; by day; all; not paid)", "done"),
            ("alike a b", "alike"), ("  alike   b   a ", "alike"),
            ("show b sum(price; by day; all) + 1", "done"), ("alike a b", "apart 1"),
            ("show b sum(price; by day; self)", "done"), ("alike a b", "apart 2"), ("alike b a", "apart 2"),
            ("show b sum(price; by day; rows ..2)", "done"), ("alike a b", "apart 4"),
            ("show b sum(price; by day; rows -11..)", "done"), ("alike a b", "apart 13"),
            ("show c sum(price; by day; rows -11.. | rows ..-12)", "done"), ("alike a c", "alike"),
        )

    def test_settled(self):
        self.say_all(
            ("show a sum(price; by day; rows ..0)", "done"), ("settled a", "open 2"),
            ("show a sum(price; by day; rows ..0) + sum(price; by day; rows 1..)", "done"), ("settled a", "settled"),
            ("show a count(by day; rows -3..3)", "done"), (" settled  a  ", "open 5"), ("show a 4", "done"),
            ("settled a", "settled"), ("show a count(by day; rows 12..)", "done"), ("settled a", "open 13"),
        )

    def test_most(self):
        self.say_all(
            ("show a count(by day; rows -3..3)", "done"), ("most a", "7"), ("show a -sum(price; by day; all) - 2", "done"),
            ("most a", "-2"), ("show a sum(price; by day; self)", "done"), ("  most a", "unbounded"),
            ("show a count(by day; rows ..0)", "done"), ("most a", "unbounded"),
        )

    def test_several_sorts(self):
        self.desk = Desk(FREE)
        self.say_all(
            ("show a count(by day; rows ..0) + count(by best; rows -3..0)", "done"), ("settled a", "open 2"),
            ("show b sum(price; by day; all)", "done"), ("show c sum(price; by best; all)", "done"), ("alike b c", "alike"),
        )
        self.fails("most a", SeveralSorts)
        self.say("show a sum(price; by day; self) - sum(price; by best; self)", "done")
        self.fails("most a", SeveralSorts)


class Undoing(Checks):
    def test_undo_and_redo_behind_each_kind_of_line(self):
        self.put((0, 1, 5, 0), (0, 1, 6, 1))
        self.say("show a sum(price; by day; rows ..0)", "done")
        for line, before, after in [
            ("put shop=0 date=1 price=7 paid=0", "5 11", "5 11 18"), ("set 0 price=9", "5 11", "9 15"),
            ("set 1 price=6", "5 11", "5 11"), ("take 0", "5 11", "6"), ("exchange day 0 1", "5 11", "11 6"),
            ("show a count(by day; all)", "5 11", "2 2"), ("show b 1", "5 11", "5 11"),
        ]:
            self.say("ask a", before)
            self.desk.say(line)
            self.say("ask a", after)
            self.say("undo", "done")
            self.say("ask a", before)
            self.say(" redo ", "done")
            self.say("ask a", after)
            self.say("undo", "done")
        self.say("hide a", "done")
        self.fails("ask a", NoSuchName, name="a")
        self.say("undo", "done")
        self.say("ask a", "5 11")
        self.say("redo", "done")
        self.fails("ask a", NoSuchName, name="a")

    def test_lines_that_change_nothing(self):
        self.put((0, 1, 5, 0))
        self.say("show a 3", "done")
        for line in ["ask a", "alike a a", "settled a", "most a"]:
            self.desk.say(line)
        self.say("undo", "done")
        for line in ["take 5", "nothing", "", "put nope=1", "show a )", "hide b", "exchange day 0 0"]:
            with self.assertRaises(WindowError):
                self.desk.say(line)
        self.say("redo", "done")
        self.say("ask a", "3")
        self.fails("redo", NothingToRedo)
        self.say_all(("undo", "done"), ("undo", "done"))
        self.fails("undo", NothingToUndo)
        self.say_all(("redo", "done"), ("redo", "done"), ("ask a", "3"))

    def test_nothing_to_undo(self):
        self.fails("undo", NothingToUndo)
        self.fails("redo", NothingToRedo)
        self.put((0, 1, 5, 0))
        self.say("undo", "done")
        self.put((0, 1, 6, 0))
        self.fails("redo", NothingToRedo)


class BadLines(Checks):
    def test_lines_of_no_form(self):
        self.put((0, 1, 5, 0), (0, 1, 6, 0))
        self.say_all(("show a 1", "done"), ("show b 2", "done"))
        for line in [
            "", " ", "    ", "nope", "Put shop=1", "PUT shop=1", "puts shop=1", "put", "put ", "set", "set 0", "set price=1",
            "set 0 0", "set 0 price=1 2", "set 0 1 price=1", "set price=1 0", "take", "take 0 0", "take a", "take 0 price=1",
            "exchange", "exchange day", "exchange day 0", "exchange day 0 1 1", "exchange 0 1", "exchange 0 1 day",
            "exchange day 0 a", "exchange day a 0", "undo 1", "undo undo", "redo a", "undoo", "un do", "show", "show a",
            "show a ", "show  a   ", "hide", "hide a b", "hide a a", "ask", "ask a b", "ask 0", "alike", "alike a", "alike a b b",
            "settled", "settled a b", "most", "most a b", "most 1", "a", "ask a;", "row 0", "done",
        ]:
            self.fails(line, BadLine)

    def test_integers(self):
        self.put((0, 1, 5, 0), (0, 1, 6, 0))
        for number in [
            "00", "01", "+1", "-0", "-01", "1.0", "1..2", "12345678901234", "-12345678901234", "1e3", "", "-", "--1", "1-", "0x1",
            "1_0", "a", "=", "1=1", "=1",
        ]:
            self.fails(f"put shop=1 date=1 price=1 paid={number}", BadLine)
            self.fails(f"set 0 price={number}", BadLine)
            if number:
                self.fails(f"set {number} price=1", BadLine)
                self.fails(f"take {number}", BadLine)
                self.fails(f"exchange day {number} 1", BadLine)
                self.fails(f"exchange day 0 {number}", BadLine)

    def test_pairs(self):
        self.put((0, 1, 5, 0))
        for pairs in [
            "=1", "shop=", "=", "shop", "shop==1", "shop =1", "shop= 1", "shop = 1", "Shop=1", "shop1=1", "rows=1", "sum=1",
            "not=1", "count=1", "by=1", "self=1", "abcdefghi=1", "shop=1 date", "shop=1 =2", "shop=1,date=2", "shop:1",
            "sh op=1", "shop=1 date=2 price=3 paid=0 4",
        ]:
            self.fails(f"put {pairs}", BadLine)
            self.fails(f"set 0 {pairs}", BadLine)

    def test_a_column_twice(self):
        self.put((0, 1, 5, 0))
        for pairs in [
            "shop=1 shop=1", "shop=1 shop=2", "shop=1 date=1 price=1 paid=1 date=2", "nope=1 nope=1", "nope=1 shop=1 nope=2",
            "gone=1 price=1 price=1",
        ]:
            self.fails(f"put {pairs}", BadLine)
            self.fails(f"set 0 {pairs}", BadLine)
            self.fails(f"set 9 {pairs}", BadLine)

    def test_names(self):
        self.put((0, 1, 5, 0))
        for name in ["A", "a1", "abcdefghi", "rows", "groups", "keys", "self", "ties", "group", "all", "none", "sum", "by", "not", "a.b", "1"]:
            for line in [
                f"show {name} 1", f"hide {name}", f"ask {name}", f"alike {name} a", f"alike a {name}", f"settled {name}",
                f"most {name}", f"exchange {name} 0 1",
            ]:
                self.fails(line, BadLine)
        self.say("show abcdefgh 1", "done")
        self.say("ask abcdefgh", "1")

    def test_bad_lines_come_ahead_of_other_errors(self):
        self.fails("put nope=1 date=01", BadLine)
        self.fails("set 99 nope=1 date", BadLine)
        self.fails("exchange nope 99 99 99", BadLine)
        self.fails("alike nope gone more", BadLine)
        self.fails("show Nope )", BadLine)


class Desks(Checks):
    def test_two_desks(self):
        other = Desk(PARTED)
        self.put((0, 1, 5, 0))
        self.say("show a count(by day; all)", "done")
        with self.assertRaises(NoSuchName):
            other.say("ask a")
        self.assertEqual(other.say("put shop=0 date=1 price=1 paid=1"), "row 0")
        self.say("ask a", "1")

    def test_other_schemes(self):
        desk = Desk(ONE_SORT)
        self.assertEqual(desk.say("put date=4 price=-6"), "row 0")
        with self.assertRaises(UnknownColumn) as caught:
            desk.say("put shop=1 date=4 price=-6 paid=1")
        self.assertEqual(caught.exception.name, "shop")
        desk = Desk(THREE_SORTS)
        row = "shop=0 town=0 date=1 points=1 size=1 price=2 cost=3 paid=0 void=1"
        with self.assertRaises(BadRow) as caught:
            desk.say(f"put {row}")
        self.assertEqual((caught.exception.number, caught.exception.column), (0, "late"))
        self.assertEqual(desk.say(f"put late=1 {row}"), "row 0")
        self.assertEqual(desk.say(f"put {row} late=0"), "row 1")
        self.assertEqual(desk.say("show a sum(cost; by best; rows ..0) - count(by town; rows ..0)"), "done")
        self.assertEqual(desk.say("ask a"), "2 4")
        self.assertEqual(desk.say("exchange best 0 1"), "done")
        self.assertEqual(desk.say("ask a"), "5 1")


if __name__ == "__main__":
    unittest.main()
