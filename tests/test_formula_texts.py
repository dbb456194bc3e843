"""Promise 37, with promises 3, 19 and 20 for the texts of formulas, and promise 2 for them."""

import random
import unittest

from samples import mixed_samples
from table_samples import THREE_SORTS, formula_with, random_marks, random_terms
from windowrows.errors import BadText
from windowrows.formulas import Formula, count_of, number, sum_of
from windowrows.formulatext import read_formula, write_formula
from windowrows.regions import (
    every, groups_between, keys_between, nothing, own_group, own_row, rows_between, ties,
)
from windowrows.regiontext import read_region

RESERVED = ["rows", "groups", "keys", "self", "ties", "group", "all", "none", "sum", "count", "by", "not"]
NAMES = ["a", "z", "day", "abcdefgh", "zzzzzzzz", "row", "rowss", "sums", "counts", "bys", "nota", "key", "nots"]
FAR = 9999999999999

# Tokens by their kinds. The last kind cannot stand anywhere.
TOKENS = {
    **{sign: [sign] for sign in "+-*();,|&~"}, **{word: [word] for word in RESERVED},
    "INTEGER": ["0", "7", "10", "1234567890123"], "NAME": ["day", "x", "abcdefgh"],
    "NONE": ["07", "00", "000", "12345678901234", "99999999999999999999", "abcdefghi", "A", "_", ".", "=", "{",
             "/", "^", ":", "[", "'", "`", "@"],
}
BASIC = ["rows", "groups", "keys", "self", "ties", "group", "all", "none"]
FACTOR = ["~", "(", *BASIC]
WINDOW = ["sum", "count"]
ITEM = ["INTEGER", *WINDOW]

# Beginnings of texts, with the kinds of the tokens that can stand behind them.
BEGINNINGS = {
    "": ["-", *ITEM],
    "-": ITEM,
    "3": ["*", "+", "-"],
    "-3": ["*", "+", "-"],
    "3 *": WINDOW,
    "3 +": ITEM,
    "3 -": ITEM,
    "3 * count": ["("],
    "count": ["("],
    "count(": ["by"],
    "count(by": ["NAME"],
    "count(by day": [";"],
    "count(by day;": FACTOR,
    "count(by day; ~": FACTOR,
    "count(by day; (": FACTOR,
    "count(by day; all &": FACTOR,
    "count(by day; all -": FACTOR,
    "count(by day; all |": FACTOR,
    "count(by day; (all": ["|", "&", "-", ")"],
    "count(by day; ((all)": ["|", "&", "-", ")"],
    "count(by day; all": ["|", "&", "-", ";", ")"],
    "count(by day; rows 1..2": ["|", "&", "-", ";", ")"],
    "count(by day; (all)": ["|", "&", "-", ";", ")"],
    "count(by day; rows": [],
    "count(by day; groups": [],
    "count(by day; keys": [],
    "count(by day; all;": ["not", "NAME"],
    "count(by day; all; not": ["NAME"],
    "count(by day; all; paid": [",", ")"],
    "count(by day; all; not paid": [",", ")"],
    "count(by day; all; paid,": ["not", "NAME"],
    "count(by day; all; not paid, not": ["NAME"],
    "count(by day; all; paid, not void": [",", ")"],
    "count(by day; all)": ["+", "-"],
    "count(by day; all; paid)": ["+", "-"],
    "-count(by day; all)": ["+", "-"],
    "2 * count(by day; all)": ["+", "-"],
    "sum": ["("],
    "sum(": ["NAME"],
    "sum(price": [";"],
    "sum(price;": ["by"],
    "sum(price; by": ["NAME"],
    "sum(price; by day": [";"],
    "sum(price; by day;": FACTOR,
    "sum(price; by day; all": ["|", "&", "-", ";", ")"],
    "sum(price; by day; all;": ["not", "NAME"],
    "sum(price; by day; all; paid": [",", ")"],
    "sum(price; by day; all)": ["+", "-"],
    "sum(price; by day; all) +": ITEM,
    "sum(price; by day; all) - 3": ["*", "+", "-"],
}
# The kinds of tokens behind which a text may end, if they can stand at all.
LAST = {"INTEGER": True, ")": True}


class Reading(unittest.TestCase):
    def check(self, text, formula):
        found = read_formula(text)
        self.assertIsInstance(found, Formula)
        self.assertIs(found == formula, True, text)

    def test_example(self):
        self.check(
            "2 * sum(price; by day; rows -2..0; paid, not void) - 7",
            2 * sum_of("price", "day", rows_between(-2, 0), wanted=("paid",), barred=("void",)) - 7,
        )

    def test_integers(self):
        for text, value in [
            ("0", 0), ("1", 1), ("10", 10), ("-5", -5), ("-0", 0), ("1234567890123", 1234567890123),
            ("-9999999999999", -9999999999999), ("1 + 2", 3), ("1 - 2 - 3", -4), ("-1 - 2 + 4", 1), ("-1 + 2", 1),
            ("1 - 2 + 3 - 4", -2), ("0 - 0", 0), ("9999999999999 + 9999999999999", 19999999999998),
        ]:
            self.check(text, number(value))

    def test_windows(self):
        self.check("count(by day; all)", count_of("day", every()))
        self.check("sum(price; by day; all)", sum_of("price", "day", every()))
        self.check("sum(day; by price; self)", sum_of("day", "price", own_row()))
        for text, region in [
            ("self", own_row()), ("ties", ties()), ("group", own_group()), ("all", every()),
            ("rows ..0", rows_between(None, 0)), ("groups -1..2", groups_between(-1, 2)), ("keys 3..", keys_between(3, None)),
            ("rows -2..0 - self | keys 1..", (rows_between(-2, 0) - own_row()) | keys_between(1, None)),
            ("~(group | rows 1..2) & all", ~(own_group() | rows_between(1, 2))), ("(((self)))", own_row()),
            ("all - group - keys 1..2", every() - own_group() - keys_between(1, 2)),
        ]:
            self.check(f"count(by day; {text})", count_of("day", region))
            self.check(f"sum(price; by best; {text}; paid)", sum_of("price", "best", region, wanted=["paid"]))

    def test_empty_windows(self):
        self.check("count(by day; none)", number(0))
        self.check("3 - 2 * sum(price; by day; rows 1..2 & rows 3..; paid)", number(3))

    def test_factors_and_signs(self):
        count, price = count_of("day", every()), sum_of("price", "day", ties())
        one, other = "count(by day; all)", "sum(price; by day; ties)"
        for text, formula in [
            (f"5 * {one}", 5 * count), (f"-5 * {one}", -5 * count), (f"-{one}", -count), (f"0 * {one}", number(0)),
            (f"{one} + {other}", count + price), (f"{one} - {other}", count - price),
            (f"-{one} - {other}", -count - price), (f"-{one} + {other}", price - count),
            (f"-3 * {one} + 2 * {other}", 2 * price - 3 * count), (f"{one} - 2 * {other} - {one}", -2 * price),
            (f"4 - {one}", 4 - count), (f"-4 + {one} - 1", count - 5), (f"{one} + {one} + {one}", 3 * count),
            (f"{one} - 4 - 3 * {other} + 6", count - 3 * price + 2), (f"{one} - {one}", number(0)),
            (f"9999999999999 * {one}", FAR * count), (f"1 * {one}", count), (f"2 - 3 * {one} + 1", 3 - 3 * count),
        ]:
            self.check(text, formula)

    def test_the_sign_ahead_negates_the_first_item_only(self):
        self.check("-1 + 2", number(1))
        self.check("-count(by day; all) + 2", 2 - count_of("day", every()))
        self.check("-2 * count(by day; all) - 2", -2 - 2 * count_of("day", every()))

    def test_marks(self):
        for text, wanted, barred in [
            ("paid", ["paid"], []), ("not paid", [], ["paid"]), ("paid, void", ["paid", "void"], []),
            ("void, not paid", ["void"], ["paid"]), ("not void, paid", ["paid"], ["void"]),
            ("not b, not a, not c", [], ["a", "b", "c"]), ("c, not b, a, not d", ["a", "c"], ["b", "d"]),
            ("notpaid", ["notpaid"], []), ("not notpaid", [], ["notpaid"]),
        ]:
            self.check(f"count(by day; ties; {text})", count_of("day", ties(), wanted=wanted, barred=barred))
            self.check(
                f"2 * sum(price; by day; ties; {text}) + 1",
                2 * sum_of("price", "day", ties(), wanted=wanted, barred=barred) + 1,
            )

    def test_a_mark_may_stand_in_several_windows(self):
        self.check(
            "count(by day; all; paid) + count(by day; self; not paid)",
            count_of("day", every(), wanted=["paid"]) + count_of("day", own_row(), barred=["paid"]),
        )

    def test_one_name_for_everything(self):
        self.check("sum(day; by day; self; day)", sum_of("day", "day", own_row(), wanted=["day"]))

    def test_names(self):
        for name in NAMES:
            self.check(f"sum({name}; by day; self)", sum_of(name, "day", own_row()))
            self.check(f"count(by {name}; self)", count_of(name, own_row()))
            self.check(f"count(by day; self; {name})", count_of("day", own_row(), wanted=[name]))
            self.check(f"count(by day; self; not {name})", count_of("day", own_row(), barred=[name]))

    def test_spaces_anywhere_or_nowhere(self):
        tokens = [
            "-", "2", "*", "sum", "(", "price", ";", "by ", "day", ";", "rows", "-2..0", "-", "self", "|", "~", "(",
            "group", "&", "keys", "1..", ")", ";", "paid", ",", "not ", "void", ")", "-", "7", "+", "count", "(", "by ",
            "day", ";", "all", ")",
        ]
        region = (rows_between(-2, 0) - own_row()) | ~(own_group() & keys_between(1, None))
        expected = count_of("day", every()) - 7 - 2 * sum_of(
            "price", "day", region, wanted=["paid"], barred=["void"],
        )
        self.check("".join(tokens), expected)
        self.check(" ".join(tokens), expected)
        self.check("   " + "   ".join(tokens) + "   ", expected)
        dice = random.Random(37)
        for _ in range(50):
            self.check("".join(token + " " * dice.choice([0, 0, 1, 3]) for token in tokens), expected)

    def test_ends_beyond_the_usual_ones(self):
        self.check(f"count(by day; rows -{FAR}..{FAR})", count_of("day", rows_between(-FAR, FAR)))
        self.check(f"count(by day; keys {FAR}..; paid)", count_of("day", keys_between(FAR, None), wanted=["paid"]))

    def test_eight_signs_enclose(self):
        for text in [
            "((((((((all))))))))", "~~~~~~~~all", "~(~(~(~(all))))", "(((((((~all)))))))", "~~~~((((all)))) & (all)",
            "((((((((all)))))))) | ((((((((self))))))))",
        ]:
            self.check(f"count(by day; {text})", count_of("day", read_region(text)))
            self.check(f"3 * sum(price; by day; {text}; paid)", 3 * sum_of(
                "price", "day", read_region(text), wanted=["paid"],
            ))

    def test_again(self):
        text = "2 * sum(price; by day; rows -2..0; paid, not void) - 7"
        self.assertTrue(read_formula(text) == read_formula(text))


class BadTexts(unittest.TestCase):
    def check(self, text, place):
        for _ in range(2):
            with self.assertRaises(BadText) as caught:
                read_formula(text)
            self.assertEqual(caught.exception.place, place, text)

    def follow(self, beginning, space, kind, token, allowed):
        text = beginning + space + token
        if kind not in allowed:
            self.check(text, len(beginning + space))
            self.check(text + " ", len(beginning + space))
            self.check(text + " all) 3", len(beginning + space))
        elif kind in LAST and not self.is_open(beginning):
            self.assertIsInstance(read_formula(text), Formula)
            self.check(text + " )", len(text) + 1)
        else:
            self.check(text, len(text))
            self.check(text + "   ", len(text) + 3)

    def is_open(self, beginning):
        """Return whether a further bracket that is closed leaves one that is not."""
        return beginning.count("(") - beginning.count(")") > 1

    def test_every_token_behind_every_beginning(self):
        for beginning, allowed in BEGINNINGS.items():
            for kind, tokens in TOKENS.items():
                for token in tokens:
                    for space in [" ", "   "]:
                        self.follow(beginning, space, kind, token, allowed)

    def test_without_spaces(self):
        for beginning, allowed in BEGINNINGS.items():
            for kind, tokens in TOKENS.items():
                for token in tokens:
                    before = beginning[-1:]
                    if (before.isalpha() and token.isalpha()) or (before.isdigit() and token[0].isdigit()):
                        continue
                    # A stretch may go on: `rows`, or the `2` of `1..2`.
                    if before.isalpha() or before in ("(", ")", ";", ",", "*", "+", "-", "~", "&", "|", ""):
                        self.follow(beginning, "", kind, token, allowed)

    def test_a_text_that_ends_too_early(self):
        for beginning in BEGINNINGS:
            if beginning in ("3", "-3") or (beginning.count("(") == beginning.count(")") and beginning.endswith((")", "3"))):
                self.assertIsInstance(read_formula(beginning), Formula)
            else:
                for spaces in ["", " ", "    "]:
                    self.check(beginning + spaces, len(beginning + spaces))

    def test_no_text(self):
        self.check("", 0)
        self.check(" ", 1)
        self.check("     ", 5)

    def test_every_cut_of_a_text(self):
        text = "2 * sum(price; by day; rows -2..0; paid, not void) - 7"
        for end in range(len(text)):
            cut = text[:end]
            if cut.strip() in ("2", text[:-4]):
                self.assertIsInstance(read_formula(cut), Formula)
                continue
            # A word that is cut off cannot stand there, but a name that is
            # cut off is a name, and so are `n` and `no`.
            place = end
            for beginning in ["s", "su", "b", "r", "ro", "row"]:
                if cut.endswith((" " + beginning, "(" + beginning)):
                    place = end - len(beginning)
            if cut.endswith(("rows -", "rows -2", "rows -2.")):
                place = cut.index("-")
            self.check(cut, place)

    def test_integers(self):
        for text, place in [
            ("00", 0), ("01", 0), ("12345678901234", 0), ("-01", 1), ("- 00", 2), ("3 + 05", 4), ("3 - 12345678901234", 4),
            ("00 * count(by day; all)", 0), ("2 * 3", 4), ("2 3", 2), ("2 count(by day; all)", 2), ("2 * * 3", 4),
            ("2 ** 3", 3), ("2.5", 1), ("2..5", 1), ("1,000", 1), ("0x", 1), ("12345678901234567890", 0), ("1e5", 1),
            ("--1", 1), ("+1", 0), ("1 + -1", 4), ("1 - -1", 4), ("1 + + 1", 4), ("(1)", 0), ("1)", 1), ("2 * (3)", 4),
        ]:
            self.check(text, place)

    def test_words_that_are_no_names(self):
        for word in [*RESERVED, "abcdefghi", "abcdefghijklmnop"]:
            self.check(f"sum({word}; by day; all)", 4)
            self.check(f"sum(  {word} ; by day; all)", 6)
            self.check(f"count(by {word}; all)", 9)
            self.check(f"sum(price; by {word}; all)", 14)
            if word != "not":
                self.check(f"count(by day; all; {word})", 19)
                self.check(f"count(by day; all; paid, {word})", 25)
            self.check(f"count(by day; all; not {word})", 23)
            self.check(f"count(by day; all; paid, not {word})", 29)

    def test_words_with_other_characters(self):
        for text, place in [
            ("sum(Price; by day; all)", 4), ("sum(priCe; by day; all)", 7), ("sum(pri_ce; by day; all)", 7),
            ("sum(p2; by day; all)", 5), ("count(by day2; all)", 12), ("count(by day; all; a-b)", 20),
            ("count(byday; all)", 6), ("sums(price; by day; all)", 0), ("Sum(price; by day; all)", 0),
            ("sum(price; By day; all)", 11), ("count(by day; all; Not paid)", 19), ("count(by day; ALL)", 14),
            ("count(by day; all; not_paid)", 22), ("xcount(by day; all)", 0), ("day", 0), ("by", 0), ("all", 0),
        ]:
            self.check(text, place)

    def test_counts_and_sums_are_not_mixed(self):
        self.check("count(price; by day; all)", 6)
        self.check("sum(by day; all)", 4)
        self.check("sum(price by day; all)", 10)
        self.check("count(day; all)", 6)
        self.check("count(by day all)", 13)
        self.check("count(by day; all, paid)", 17)
        self.check("count(by day; all; paid; void)", 23)
        self.check("count(by day; all; paid void)", 24)
        self.check("count(by day; all;)", 18)
        self.check("count(by day; all; paid,)", 24)
        self.check("count(by day; all; not not paid)", 23)
        self.check("count(by day; )", 14)
        self.check("count(by day)", 12)
        self.check("count()", 6)

    def test_marks_that_occur_twice(self):
        for marks, place in [
            ("paid, paid", 6), ("paid, not paid", 10), ("not paid, paid", 10), ("not paid, not paid", 14),
            ("a, b, a", 6), ("a, b, not b, not a", 10), ("a,b,a", 4), ("a, not   a", 9), ("a, b, c, d, not b, zzz", 16),
        ]:
            self.check(f"count(by day; all; {marks})", 19 + place)
            self.check(f"count(by day; none; {marks})", 20 + place)
            self.check(f"2 - sum(price; by day; all; {marks}) + 00", 28 + place)
            self.check(f"count(by day; all; {marks}", 19 + place)

    def test_the_first_bad_token_counts(self):
        self.check("count(by day; all; paid, paid, not) + 01 + A", 25)
        self.check("count(by rows; all; paid, paid)", 9)
        self.check("01 + count(by rows; all)", 0)

    def test_stretches(self):
        for text, place in [
            ("count(by day; rows 2..1)", 19), ("count(by day; rows 1..02)", 19), ("count(by day; rows 1.. 2)", 23),
            ("count(by day; rows 1.)", 19), ("count(by day; rows 1.", 19), ("count(by day; rows -", 19),
            ("count(by day; rows)", 18), ("count(by day; keys 12345678901234..)", 19), ("count(by day; 1..2)", 14),
            ("count(by day; rows 1..2..3)", 23), ("count(by day; rows -0..1)", 19), ("count(by day; rows 1..2 3)", 24),
            ("count(by day; all 1..2)", 18), ("count(by 1..2; all)", 9), ("1..2 + 3", 1),
        ]:
            self.check(text, place)
        self.check("count(by day; rows 1..12345678901234)", 35)

    def test_nine_signs_enclose(self):
        for union, place in [
            ("(((((((((all)))))))))", 8), ("~~~~~~~~~all", 8), ("~(~(~(~(~all))))", 8), ("~~~~((((~all))))", 8),
            ("((((((((all)))))))) | (((((((((all", 30), ("((((((((all & ~", 14), ("(((((((( (", 9),
        ]:
            self.check(f"count(by day; {union}", 14 + place)
            self.check(f"2 * sum(price; by day; {union})", 23 + place)

    def test_other_characters(self):
        for text, place in [
            ("3 $ 4", 2), ("3;", 1), ("3,", 1), ("#", 0), ("3 / 4", 2), ("3 = 3", 2), ("3 | 4", 2), ("3 & 4", 2), ("~3", 0),
            ("count[by day; all]", 5), ("count{by day; all}", 5), ("3 ~", 2), ("count(by day; all, self)", 17),
            ("count(by day! all)", 12), ("count(by day: all)", 12), ("sum(price, by day; all)", 9), ("'3'", 0),
        ]:
            self.check(text, place)


class Writing(unittest.TestCase):
    def check(self, formula):
        text = write_formula(formula)
        self.assertIs(type(text), str)
        self.assertTrue(all(" " <= letter <= "~" and letter != "%" for letter in text), text)
        self.assertIs(read_formula(text) == formula, True, text)
        self.assertEqual(write_formula(formula), text)
        return text

    def test_without_terms(self):
        for value in [0, 1, -1, 10, -FAR, FAR]:
            self.check(number(value))
        self.check(count_of("day", nothing()) + 3)

    def test_factors(self):
        count, price = count_of("day", every()), sum_of("price", "best", ties(), wanted=["paid"], barred=["void"])
        for first in [-FAR, -2, -1, 1, 2, FAR]:
            self.check(first * count)
            self.check(first * price)
            for second in [-3, -1, 1, 5]:
                for constant in [-FAR, -1, 0, 1, 7]:
                    self.check(first * count + second * price + constant)

    def test_constants(self):
        for constant in [-FAR, -1, 0, 1, FAR]:
            self.check(count_of("day", own_row()) + constant)
            self.check(-count_of("day", own_row()) + constant)

    def test_marks(self):
        for wanted, barred in [
            (["a"], []), ([], ["a"]), (["b", "a"], []), ([], ["b", "a"]), (["a", "d"], ["b", "c"]),
            (["zzzzzzzz", "nota"], ["by" + "s"]), (["day"], ["price"]),
        ]:
            self.check(count_of("day", rows_between(-2, 2), wanted=wanted, barred=barred))
            self.check(3 - 4 * sum_of("price", "day", keys_between(None, -2), wanted=wanted, barred=barred))

    def test_names(self):
        for first in NAMES:
            for second in NAMES[:4]:
                self.check(sum_of(first, second, every(), wanted=[first], barred=[second + "x" * (len(second) < 8)]
                                  if first != second else []))

    def test_all_kinds_of_windows(self):
        for region, _, _ in mixed_samples(37, 60):
            self.check(5 * count_of("day", region) - sum_of("price", "day", region, wanted=["paid"]))

    def test_ends_of_thirteen_digits(self):
        for region in [
            rows_between(-FAR, FAR), keys_between(FAR, None), groups_between(None, -FAR),
            keys_between(FAR - 1, FAR) | rows_between(-3, -3), rows_between(FAR, FAR) & keys_between(None, FAR),
        ]:
            self.check(FAR * count_of("day", region) - FAR)

    def test_many_formulas(self):
        dice = random.Random(38)
        for _ in range(100):
            constant = dice.choice([0, 0, -3, 12])
            self.check(formula_with(constant, random_terms(dice, THREE_SORTS, dice.randrange(8))))

    def test_texts_that_were_read(self):
        for text in [
            "2 * sum(price; by day; rows -2..0; paid, not void) - 7", "0", "-1", "-count(by day; all)",
            "3 - 2 * count(by day; ~(group & rows 1..) | keys ..5; not a, b)",
        ]:
            formula = read_formula(text)
            self.assertTrue(read_formula(self.check(formula)) == formula)

    def test_the_formula_stays_as_it_is(self):
        wanted, barred = random_marks(random.Random(2), THREE_SORTS)
        formula = 2 * count_of("day", ties(), wanted=wanted, barred=barred) - 5
        self.check(formula)
        self.assertTrue(formula == 2 * count_of("day", ties(), wanted=wanted, barred=barred) - 5)


if __name__ == "__main__":
    unittest.main()
