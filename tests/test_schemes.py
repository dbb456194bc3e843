"""Promises 25, 26 and 3, and promise 2 for sorts and schemes."""

import itertools
import unittest

from windowrows.errors import BadScheme, UnknownSort
from windowrows.schemes import Scheme, Sort

RESERVED = ["rows", "groups", "keys", "self", "ties", "group", "all", "none", "sum", "count", "by", "not"]
WRONG_NAMES = [
    "", " ", "abcdefghi", "A", "Day", "daY", "d2", "2", "d_y", "_", "a b", " day", "day ", "a-b", "day.", "~", "`", "{",
    *RESERVED,
]
GOOD_NAMES = ["a", "z", "day", "abcdefgh", "zzzzzzzz", "row", "rowss", "key", "sums", "tie", "bys", "nota", "current"]


def sample():
    return Scheme(
        [Sort("day", "date", part="shop"), Sort("rank", "points", descending=True)],
        parts=("shop", "town"), values=("price", "cost"), marks=("paid", "void"),
    )


class Sorts(unittest.TestCase):
    def test_attributes(self):
        sort = Sort("day", "date", part="shop", descending=True)
        self.assertEqual((sort.name, sort.key, sort.part, sort.descending), ("day", "date", "shop", True))

    def test_what_is_left_out(self):
        sort = Sort("day", "date")
        self.assertIsNone(sort.part)
        self.assertIs(sort.descending, False)

    def test_part_and_descending_are_passed_by_name(self):
        with self.assertRaises(TypeError):
            Sort("day", "date", "shop")

    def test_checks_nothing(self):
        sort = Sort("", "rows", part="NO", descending=False)
        self.assertEqual((sort.name, sort.key, sort.part), ("", "rows", "NO"))

    def test_equality(self):
        sort = Sort("day", "date", part="shop", descending=True)
        self.assertIs(sort == Sort("day", "date", part="shop", descending=True), True)
        self.assertIs(sort != Sort("day", "date", part="shop", descending=True), False)
        self.assertIs(Sort("day", "date") == Sort("day", "date", part=None, descending=False), True)
        for other in [
            Sort("days", "date", part="shop", descending=True), Sort("day", "dates", part="shop", descending=True),
            Sort("day", "date", part="town", descending=True), Sort("day", "date", descending=True),
            Sort("day", "date", part="shop"),
        ]:
            self.assertIs(sort == other, False)
            self.assertIs(sort != other, True)

    def test_equality_with_other_values(self):
        sort = Sort("day", "date")
        for other in [None, "day", ("day", "date", None, False), {}, 0, Sort, object(), Scheme([sort])]:
            self.assertIs(sort == other, False)
            self.assertIs(other == sort, False)


class Columns(unittest.TestCase):
    def test_order(self):
        scheme = sample()
        self.assertEqual(scheme.columns(), ["shop", "town", "date", "points", "price", "cost", "paid", "void"])
        self.assertEqual(scheme.sort_names(), ["day", "rank"])
        self.assertEqual(scheme.part_columns, ("shop", "town"))
        self.assertEqual(scheme.value_columns, ("price", "cost"))
        self.assertEqual(scheme.mark_columns, ("paid", "void"))

    def test_what_is_left_out(self):
        scheme = Scheme([Sort("day", "date")])
        self.assertEqual(scheme.columns(), ["date"])
        self.assertEqual(scheme.sort_names(), ["day"])
        self.assertEqual((scheme.part_columns, scheme.value_columns, scheme.mark_columns), ((), (), ()))

    def test_kinds(self):
        for scheme in [sample(), Scheme([Sort("day", "date")], parts=["shop"], values=["price"], marks=["paid"])]:
            self.assertIs(type(scheme.columns()), list)
            self.assertIs(type(scheme.sort_names()), list)
            for names in (scheme.part_columns, scheme.value_columns, scheme.mark_columns):
                self.assertIs(type(names), tuple)

    def test_the_most(self):
        scheme = Scheme(
            [Sort("a", "ka"), Sort("b", "kb", part="q"), Sort("c", "kc", part="p")],
            parts=("p", "q"), values=("u", "v", "w"), marks=("l", "m", "n"),
        )
        self.assertEqual(scheme.columns(), ["p", "q", "ka", "kb", "kc", "u", "v", "w", "l", "m", "n"])
        self.assertEqual(scheme.sort_names(), ["a", "b", "c"])

    def test_more_than_the_most(self):
        names = ["ca", "cb", "cc", "cd"]
        scheme = Scheme([Sort(name, "k" + name) for name in names], values=names)
        self.assertEqual(scheme.columns(), ["kca", "kcb", "kcc", "kcd", *names])

    def test_sorts_and_names_are_passed_as_the_interface_says(self):
        with self.assertRaises(TypeError):
            Scheme([Sort("day", "date")], ("shop",))


class SortNamed(unittest.TestCase):
    def test_found(self):
        scheme = sample()
        self.assertIs(scheme.sort_named("day") == Sort("day", "date", part="shop"), True)
        self.assertIs(scheme.sort_named("rank") == Sort("rank", "points", descending=True), True)

    def test_not_there(self):
        for name in ["", "days", "Day", "date", "shop", "points", "rows"]:
            for _ in range(2):
                with self.assertRaises(UnknownSort) as caught:
                    sample().sort_named(name)
                self.assertEqual(caught.exception.name, name)


class WrongSchemes(unittest.TestCase):
    def check(self, word, sorts, **columns):
        with self.assertRaises(BadScheme) as caught:
            Scheme(sorts, **columns)
        self.assertEqual(caught.exception.word, word)

    def test_names(self):
        day = Sort("day", "date")
        for name in WRONG_NAMES:
            self.check(name, [Sort(name, "date")])
            self.check(name, [Sort("day", name)])
            self.check(name, [day], parts=(name,))
            self.check(name, [day], values=["price", name])
            self.check(name, [day], marks=("paid", name))

    def test_good_names(self):
        for name in GOOD_NAMES:
            scheme = Scheme([Sort(name, name)])
            self.assertEqual((scheme.sort_names(), scheme.columns()), ([name], [name]))
            self.assertEqual(Scheme([Sort("d", "k")], values=(name,)).columns(), ["k", name])

    def test_eight_and_nine_letters(self):
        self.assertEqual(Scheme([Sort("h" * 8, "k" * 8)]).columns(), ["k" * 8])
        self.check("h" * 9, [Sort("h" * 9, "k")])
        self.check("k" * 9, [Sort("h", "k" * 9)])

    def test_names_in_their_order(self):
        wrong = ["1a", "1b", "1c", "1d", "1e", "1f", "1g"]
        for start in range(7):
            told = ["day", "rank", "shop", "date", "points", "price", "paid"]
            told[start:] = wrong[start:]
            day, rank, shop, date, points, price, paid = told
            self.check(wrong[start], [Sort(day, date), Sort(rank, points)], parts=(shop,), values=(price,), marks=(paid,))

    def test_sorts_of_the_same_name(self):
        self.check("day", [Sort("day", "a"), Sort("day", "b")])
        self.check("rank", [Sort("day", "a"), Sort("rank", "b"), Sort("rank", "c")])
        self.check("day", [Sort("day", "a"), Sort("rank", "b"), Sort("day", "c")])

    def test_columns_of_the_same_name(self):
        for at, other in itertools.combinations(range(8), 2):
            names = ["ca", "cb", "cc", "cd", "ce", "cf", "cg", "ch"]
            names[other] = names[at]
            self.check(names[at], [Sort("day", names[2]), Sort("rank", names[3])],
                       parts=names[:2], values=names[4:6], marks=names[6:])

    def test_the_first_name_that_is_equal_to_an_earlier_one(self):
        self.check("b", [Sort("day", "a")], values=("b", "b"), marks=("a",))
        self.check("a", [Sort("day", "a")], values=("b", "a"), marks=("b",))
        self.check("day", [Sort("day", "a"), Sort("day", "a")], values=("a",))

    def test_parts_of_sorts(self):
        self.check("shop", [Sort("day", "date", part="shop")])
        self.check("town", [Sort("day", "date", part="town")], parts=("shop",))
        self.check("date", [Sort("day", "date", part="date")], parts=("shop",))
        self.check("price", [Sort("day", "date", part="price")], values=("price",))
        self.check("paid", [Sort("day", "date", part="paid")], marks=("paid",))
        self.check("", [Sort("day", "date", part="")])
        self.check("town", [Sort("day", "date", part="shop"), Sort("a", "b", part="town"), Sort("c", "d", part="no")],
                   parts=("shop",))

    def test_several_conditions(self):
        self.check("x y", [Sort("day", "a", part="no"), Sort("day", "a")], marks=("a", "x y"))
        self.check("day", [Sort("day", "a", part="no"), Sort("day", "a")], marks=("a",))
        self.check("a", [Sort("day", "a", part="no"), Sort("days", "a")], marks=("a",))
        self.check("no", [Sort("day", "a", part="no"), Sort("days", "b")], marks=("c",))

    def test_a_sort_with_the_name_of_a_column(self):
        scheme = Scheme([Sort("date", "date", part="shop"), Sort("shop", "price")], parts=("shop",), marks=("paid",))
        self.assertEqual(scheme.columns(), ["shop", "date", "price", "paid"])
        self.assertEqual(scheme.sort_names(), ["date", "shop"])


class Equality(unittest.TestCase):
    def test_equal(self):
        self.assertIs(sample() == sample(), True)
        self.assertIs(sample() != sample(), False)
        day = Sort("day", "date")
        self.assertIs(Scheme([day], parts=["shop"]) == Scheme([day], parts=("shop",), values=[], marks=()), True)

    def test_different(self):
        day, rank = Sort("day", "date"), Sort("rank", "points")
        columns = {"parts": ("p", "q"), "values": ("v", "w"), "marks": ("m", "n")}
        scheme = Scheme([day, rank], **columns)
        others = [
            Scheme([rank, day], **columns), Scheme([day], **columns),
            Scheme([Sort("day", "date", part="p"), rank], **columns),
            Scheme([Sort("day", "date", descending=True), rank], **columns),
        ]
        for kind, names in columns.items():
            others.append(Scheme([day, rank], **{**columns, kind: names[::-1]}))
            others.append(Scheme([day, rank], **{**columns, kind: names[:1]}))
        others.append(Scheme([day, rank], parts=("p", "q"), values=("v",), marks=("w", "m", "n")))
        others.append(Scheme([day, rank], parts=("p", "q", "v"), values=("w",), marks=("m", "n")))
        for other in others:
            self.assertIs(scheme == other, False)
            self.assertIs(other == scheme, False)
            self.assertIs(scheme != other, True)

    def test_with_other_values(self):
        scheme = Scheme([Sort("day", "date")])
        for other in [None, 0, "day", ["date"], scheme.columns(), scheme.sort_named("day"), Scheme, object(), {}]:
            self.assertIs(scheme == other, False)
            self.assertIs(other == scheme, False)


class Copies(unittest.TestCase):
    def test_lists_that_were_handed_in(self):
        sorts, parts, values, marks = [Sort("day", "date", part="p")], ["p"], ["v"], ["m"]
        scheme = Scheme(sorts, parts=parts, values=values, marks=marks)
        sorts.append(Sort("rank", "points"))
        sorts[0] = Sort("x", "y")
        for names in (parts, values, marks):
            names[0] = "other"
            names.append("more")
        self.assertEqual(scheme.columns(), ["p", "date", "v", "m"])
        self.assertEqual(scheme.sort_names(), ["day"])
        self.assertIs(scheme.sort_named("day") == Sort("day", "date", part="p"), True)
        with self.assertRaises(UnknownSort):
            scheme.sort_named("rank")

    def test_lists_that_are_handed_in_stay_as_they_were(self):
        sorts, parts, values, marks = [Sort("day", "date")], ["p"], ["v"], ["m"]
        Scheme(sorts, parts=parts, values=values, marks=marks).columns()
        self.assertEqual((len(sorts), parts, values, marks), (1, ["p"], ["v"], ["m"]))

    def test_lists_that_are_told(self):
        scheme = sample()
        scheme.columns().clear()
        scheme.sort_names()[0] = "x"
        self.assertEqual(len(scheme.columns()), 8)
        self.assertEqual(scheme.sort_names(), ["day", "rank"])
        self.assertIs(scheme == sample(), True)


if __name__ == "__main__":
    unittest.main()
