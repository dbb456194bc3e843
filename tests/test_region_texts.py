"""Promises 19 to 21, and promise 2 for texts of regions."""

import functools
import itertools
import unittest

from samples import basic_samples, members, mixed_samples
from windowrows.errors import BadText
from windowrows.offsets import Offset
from windowrows.regions import (
    Region, every, groups_between, keys_between, nothing, own_group, own_row, region_of, rows_between, ties,
    weights_of,
)
from windowrows.regiontext import read_region, write_region

SAMPLES = mixed_samples(19, 150)


class Reading(unittest.TestCase):
    def check(self, text, region):
        found = read_region(text)
        self.assertIsInstance(found, Region)
        self.assertIs(found == region, True, text)

    def test_each_word(self):
        for text, region in [
            ("self", own_row()), ("ties", ties()), ("group", own_group()), ("all", every()), ("none", nothing()),
        ]:
            self.check(text, region)

    def test_each_stretch(self):
        for word, function in [("rows", rows_between), ("groups", groups_between), ("keys", keys_between)]:
            for text, low, high in [
                ("1..2", 1, 2), ("-2..0", -2, 0), ("-12..-3", -12, -3), ("..5", None, 5), ("-7..", -7, None),
                ("..", None, None), ("0..0", 0, 0), ("..-1", None, -1), ("10..100", 10, 100),
            ]:
                self.check(f"{word} {text}", function(low, high))
                self.check(f"{word}{text}", function(low, high))

    def test_each_sign(self):
        self.check("rows ..2&groups 0..", rows_between(None, 2) & groups_between(0, None))
        self.check("rows ..2|groups 0..", rows_between(None, 2) | groups_between(0, None))
        self.check("rows ..2-groups 0..", rows_between(None, 2) - groups_between(0, None))
        self.check("~rows ..2", rows_between(3, None))
        self.check("(rows ..2)", rows_between(None, 2))

    def test_spaces(self):
        expected = (~(rows_between(-2, 0) - ties()) | keys_between(1, None)) & every()
        for text in [
            "(~(rows-2..0-ties)|keys1..)&all", "  ( ~ ( rows   -2..0 - ties ) | keys 1.. )  &  all   ",
            "(~(rows -2..0 -ties)| keys 1..)& all", "(~(rows-2..0- ties) |keys1.. ) &all ",
        ]:
            self.check(text, expected)

    def test_no_spaces_behind_a_stretch(self):
        self.check("rows1..2|self", rows_between(0, 2))
        self.check("rows..-self", every() - own_row())
        self.check("rows-1..-self", rows_between(-1, None) - own_row())
        self.check("rows..-1-self", rows_between(None, -1) - own_row())
        self.check("rows..0-rows-1..", rows_between(None, 0) - rows_between(-1, None))
        self.check("self-keys-5..-3", own_row())

    def test_all_samples(self):
        for region, inside, text in SAMPLES + basic_samples():
            self.check(text, region)
            self.assertEqual(members(read_region(text)), inside)
            self.check("  " + text.replace("(", " (  ").replace(")", "  )  ") + " ", region)

    def test_precedence_and_association(self):
        basics = {
            "rows -2..1": rows_between(-2, 1), "groups 0..": groups_between(0, None), "ties": ties(),
            "keys ..3": keys_between(None, 3), "~self": ~own_row(),
        }
        for words in itertools.permutations(basics, 4):
            for signs in itertools.product("&|-", repeat=3):
                text = words[0] + "".join(f" {sign} {word}" for sign, word in zip(signs, words[1:]))
                unions = [[basics[words[0]]]]
                for sign, word in zip(signs, words[1:]):
                    if sign == "|":
                        unions.append([basics[word]])
                    elif sign == "&":
                        unions[-1][0] = unions[-1][0] & basics[word]
                    else:
                        unions[-1][0] = unions[-1][0] - basics[word]
                self.check(text, functools.reduce(lambda one, other: one | other, [part for part, in unions]))

    def test_association_to_the_left(self):
        self.check("all - group - ties", ~own_group())
        self.check("all - (group - ties)", ~own_row())
        self.check("self - self & self", own_row() - own_row() & own_row())
        self.check("all - group & none", nothing())
        self.check("all - (group & none)", every())
        self.check("self | all - group", own_row() | ~own_group())
        self.check("(self | all) - group", ~own_group())

    def test_complement_binds_closest(self):
        self.check("~self & group", ties())
        self.check("~(self & group)", ~own_row())
        self.check("~~self", own_row())
        self.check("~self | self", every())
        self.check("ties - ~ties", ties())

    def test_ends_beyond_the_usual_ones(self):
        far = 9999999999999
        self.check(f"rows -{far}..{far}", rows_between(-far, far))
        self.check(f"groups {far}..", groups_between(far, None))
        self.check(f"keys ..-{far}", keys_between(None, -far))
        self.assertIn(Offset(1, 1, far + 1), read_region(f"~keys ..{far}"))


class BadTexts(unittest.TestCase):
    def check(self, text, place):
        for _ in range(2):
            with self.assertRaises(BadText) as caught:
                read_region(text)
            self.assertEqual(caught.exception.place, place, text)

    def test_examples(self):
        self.check("rows 1..2 &", 11)
        self.check("rows 1.. 2", 9)
        self.check("rows 1.", 5)

    def test_texts_that_end_too_early(self):
        for text in ["", " ", "     ", "~", "(", "~ ", "((", "(self", "(self ", "self |", "self | ", "self &", "self -",
                     "self & ~", "(self & ties", "rows", "rows ", "groups", "keys   ", "self - (", "rows 5..-"]:
            self.check(text, len(text))

    def test_signs_that_cannot_stand_there(self):
        for text, place in [
            (")", 0), ("&", 0), ("|self", 0), (" -self", 1), ("()", 1), ("( )", 2), ("self)", 4), ("(self))", 6),
            ("self && self", 6), ("self | & ties", 7), ("self ~ ties", 5), ("self (ties)", 5), ("~)", 1),
            ("(self | )", 8), ("self - - ties", 7), ("self ties", 5), ("(self ties)", 6), ("self self", 5),
            ("rows 1..2 rows 1..2", 10), ("self rows", 5), ("~self~", 5), ("(self)(self)", 6),
        ]:
            self.check(text, place)

    def test_words_that_are_not_in_the_grammar(self):
        for text, place in [
            ("row 1..2", 0), ("selfself", 0), ("self | x", 7), ("rowsself", 0), ("sum", 0), ("by", 0), ("not self", 0),
            ("count", 0), ("self & current", 7), ("nothing", 0), ("allties", 0), ("selfx", 0), ("(ties | grou)", 8),
            ("self x", 5), ("groupsx 1..", 0), ("rowss 1..2", 0), ("keyss", 0),
        ]:
            self.check(text, place)

    def test_characters_that_begin_no_token(self):
        for letter in "!\"#$'*+,./0123456789:;<=>?@ABXYZ[\\]^_`{}":
            self.check(letter, 0)
            self.check(f"self {letter}", 5)
            self.check(f"self | {letter} ties", 7)
            self.check(f"rows {letter}x", 5)
        self.check("Self", 0)
        self.check("sElf", 0)
        self.check("self\tself", 4)
        self.check("self\n", 4)

    def test_turned_stretches(self):
        for text, place in [
            ("rows 2..1", 5), ("self | keys -1..-2 & ties", 12), ("(groups    0..-1", 11), ("rows2..1x", 4),
            ("rows 1..02", 5), ("rows 1..-9999999999999", 5),
        ]:
            self.check(text, place)

    def test_stretches_that_are_cut_off(self):
        for text, place in [
            ("rows 1", 5), ("rows 1.", 5), ("rows .", 5), ("rows -", 5), ("rows -.", 5), ("rows -1", 5),
            ("rows  -1.", 6), ("keys 12", 5), ("keys 1 ..2", 5), ("keys 1. .2", 5), ("keys - 1..2", 5),
            ("keys .1", 5), ("self & groups 1", 14), ("self & groups 1.", 14), ("rows self", 5), ("rows (1..2)", 5),
            ("rows ~self", 5), ("rows & self", 5), ("rows -self", 5), ("rows --1..2", 5), ("rows)", 4),
        ]:
            self.check(text, place)

    def test_stretches_with_something_behind(self):
        for text, place in [
            ("rows 1...", 8), ("rows 1...2", 8), ("rows 1.. 2", 9), ("rows 1..2.", 9), ("rows ..2..3", 8),
            ("rows ..--1", 8), ("rows ..- 1", 9), ("rows 1.. -1..", 10), ("rows .. ..", 8), ("rows -5..-0", 10),
            ("rows 1..2self", 9), ("rows 1..2(self)", 9), ("rows 1..2~self", 9), ("keys 1..2 3", 10),
        ]:
            self.check(text, place)

    def test_leading_zeros(self):
        for text, place in [
            ("rows 01..2", 5), ("rows 00..2", 5), ("rows -0..2", 5), ("rows -01..2", 5), ("rows 0..01", 9),
            ("rows 0..00", 9), ("rows -1..02", 10), ("rows ..0123", 8), ("rows ..-01", 8),
        ]:
            self.check(text, place)

    def test_too_many_digits(self):
        ones, most = "1" * 14, "1" * 13
        self.check(f"rows {ones}..", 5)
        self.check(f"rows -{ones}..", 5)
        self.check(f"rows ..{ones}", 5 + 2 + 13)
        self.check(f"rows ..-{ones}", 5 + 2 + 14)
        self.check(f"rows {most}..{ones}", 5 + 13 + 2 + 13)
        self.assertIsInstance(read_region(f"rows -{most}..{most}"), Region)

    def test_the_first_of_several(self):
        self.check("self | x & y", 7)
        self.check("rows 2..1 & x", 5)
        self.check("x & rows 2..1", 0)
        self.check("(self & x", 8)


class SignsWithinOneAnother(unittest.TestCase):
    def check(self, text, place):
        with self.assertRaises(BadText) as caught:
            read_region(text)
        self.assertEqual(caught.exception.place, place, text)

    def test_eight(self):
        self.assertIs(read_region("~" * 8 + "self") == own_row(), True)
        self.assertIs(read_region("(" * 8 + "self" + ")" * 8) == own_row(), True)
        self.assertIs(read_region("~(" * 4 + "self" + ")" * 4) == own_row(), True)
        self.assertIs(read_region("~~~~~~~(self | ties)") == ~own_group(), True)

    def test_nine(self):
        self.check("~" * 9 + "self", 8)
        self.check("(" * 9 + "self" + ")" * 9, 8)
        self.check("~(" * 4 + "~self" + ")" * 4, 8)
        self.check("~(" * 4 + "(self)" + ")" * 4, 8)
        self.check("( " * 8 + "self | ~ties" + ")" * 8, 23)
        self.check("~ " * 9, 16)
        self.check("(" * 30, 8)
        self.check("~" * 5000, 8)

    def test_signs_beside_one_another(self):
        eight = "~" * 8 + "self"
        self.assertIs(read_region(f"{eight} | {eight} & {eight} - ~(ties)") == own_row(), True)
        inner = "(" * 7 + "self" + ")" * 7
        self.assertIs(read_region(f"({inner} & {inner} | {inner}) | ({inner})") == own_row(), True)
        self.assertIs(read_region("~" * 7 + "(self) & " + "~" * 7 + "(ties)") == ~own_group(), True)
        self.check("~" * 7 + "(self) & " + "~" * 7 + "(~ties)", 7 + 9 + 8)
        self.assertIs(read_region("(" + "~" * 7 + "self & " + "~" * 7 + "self)") == ~own_row(), True)

    def test_all_short_texts(self):
        tokens = ["self", "~", "(", ")", "&", "|", "rows 2..1", "x"]
        for length in range(6):
            for chosen in itertools.product(tokens, repeat=length):
                self.check_by_the_rules(" ".join(chosen), chosen)

    def check_by_the_rules(self, text, tokens):
        """Compare with a reading that keeps the open parentheses in a stack."""
        place, depth, wants_factor = 0, 0, True
        for token in tokens:
            if wants_factor and token in ("self", "~", "("):
                depth += token == "("
                wants_factor = token != "self"
            elif not wants_factor and token in ("&", "|"):
                wants_factor = True
            elif not wants_factor and token == ")" and depth > 0:
                depth -= 1
            else:
                self.check(text, place + (5 if token == "rows 2..1" and wants_factor else 0))
                return
            place += len(token) + 1
        if wants_factor or depth > 0:
            self.check(text, len(text))
        else:
            self.assertIsInstance(read_region(text), Region)


class Writing(unittest.TestCase):
    def check(self, region):
        text = write_region(region)
        self.assertIs(type(text), str)
        self.assertIs(read_region(text) == region, True, text)
        self.assertTrue(all(" " <= letter <= "~" for letter in text), text)

    def test_empty(self):
        self.assertEqual(write_region(nothing()), "none")
        self.assertEqual(write_region(ties() - ties()), "none")
        self.assertEqual(write_region(rows_between(1, 2) & groups_between(3, None)), "none")

    def test_nothing_is_written_twice(self):
        for text in [
            "self", "groups ..-1 & rows -2..-1 | ties & rows -2..-1 | self", "groups 1..2 & keys 1..40",
            "groups 1.. & (keys 1..5 & rows 3.. | keys 6.. & rows 1..2)", "groups 3..3 | groups 6..",
            "ties & rows ..-3 | ties & rows 1..1 | ties & rows 4..", "groups ..-2 & (rows -6..-4 | rows ..-9)",
        ]:
            self.assertEqual(write_region(read_region(text)), text)

    def test_reads_as_the_region(self):
        for region, _, _ in SAMPLES + basic_samples():
            self.check(region)

    def test_equal_regions_have_equal_texts(self):
        for region, _, text in SAMPLES:
            expected = write_region(region)
            for other in [~~region, region | region, read_region(text), read_region(expected), region - nothing(),
                          region_of(weights_of(region, 5)), (region & ties()) | (region - ties())]:
                self.assertEqual(write_region(other), expected)

    def test_different_regions_have_different_texts(self):
        texts = {}
        for region, inside, _ in SAMPLES:
            self.assertEqual(texts.setdefault(write_region(region), inside), inside)

    def test_ends_with_thirteen_digits(self):
        far = 9999999999999
        for low, high in [(-far, far), (far, far), (-far, -far), (None, -far), (far, None), (None, far), (-far, None)]:
            for function in (rows_between, groups_between, keys_between):
                self.check(function(low, high))

    def test_many_ends(self):
        region = nothing()
        for end in range(1, 9):
            region = region ^ rows_between(-end - 3, end) ^ groups_between(1 - end, end + 1)
            region = region ^ keys_between(-10 * end, 100 * end)
        self.check(region)
        self.check(~region)

    def test_the_region_stays_as_it_was(self):
        region = rows_between(-3, 4) ^ keys_between(-2, 9)
        self.assertEqual(write_region(region), write_region(region))
        self.assertIs(region == rows_between(-3, 4) ^ keys_between(-2, 9), True)


if __name__ == "__main__":
    unittest.main()
