"""Promises 22 to 24, and promise 2 for frames."""

import itertools
import unittest

from samples import TRIPLES, ZONE_OF, members, mixed_samples
from windowrows.errors import BadFrame, TurnedStretch
from windowrows.frames import Frame, first_frame
from windowrows.regions import (
    Region, every, groups_between, keys_between, nothing, own_group, own_row, rows_between, ties,
)

UNITS = ["rows", "groups", "keys"]
WITHOUTS = ["nothing", "current", "group", "ties"]
EXCLUDED = {"nothing": [], "current": ["self"], "group": ["before", "self", "after"], "ties": ["before", "after"]}
FAR = 4


def frames_in_order(far):
    """Return all frames with ends up to far, in the order of promise 23."""
    numbers = list(range(-far, far + 1))
    return [
        Frame(unit, start, end, without=without)
        for without in WITHOUTS for unit in UNITS for start in [None, *numbers] for end in [*numbers, None]
        if start is None or end is None or start <= end
    ]


def described(frame):
    return None if frame is None else (frame.unit, frame.start, frame.end, frame.without)


def triples_in(frame):
    """Return the offsets of a frame by the definition."""
    axis = UNITS.index(frame.unit)
    return {
        triple for triple in TRIPLES
        if (frame.start is None or frame.start <= triple[axis]) and (frame.end is None or triple[axis] <= frame.end)
        and ZONE_OF[triple] not in EXCLUDED[frame.without]
    }


FRAMES = frames_in_order(FAR)


class Attributes(unittest.TestCase):
    def test_kept(self):
        frame = Frame("groups", -3, None, without="ties")
        self.assertEqual(described(frame), ("groups", -3, None, "ties"))

    def test_without_is_nothing_if_left_out(self):
        self.assertEqual(Frame("rows", None, 0).without, "nothing")

    def test_without_is_passed_by_name(self):
        with self.assertRaises(TypeError):
            Frame("rows", None, 0, "group")


class WrongFrames(unittest.TestCase):
    def check_word(self, word, *arguments, **named):
        with self.assertRaises(BadFrame) as caught:
            Frame(*arguments, **named)
        self.assertEqual(caught.exception.word, word)

    def test_unit(self):
        for unit in ["", "row", "Rows", "range", "rows ", "key", "self", "nothing", "group"]:
            self.check_word(unit, unit, 0, 1)

    def test_without(self):
        for without in ["", "none", "self", "rows", "Ties", "groups", "current row"]:
            self.check_word(without, "rows", 0, 1, without=without)

    def test_turned(self):
        for unit in UNITS:
            for without in WITHOUTS:
                with self.assertRaises(TurnedStretch) as caught:
                    Frame(unit, 3, -2, without=without)
                self.assertEqual((caught.exception.low, caught.exception.high), (3, -2))

    def test_the_first_error_of_several(self):
        self.check_word("row", "row", 1, 0, without="none")
        self.check_word("row", "row", 0, 1, without="none")
        self.check_word("row", "row", 1, 0)
        self.check_word("none", "rows", 1, 0, without="none")

    def test_open_ends_are_not_turned(self):
        for start, end in [(None, None), (None, -12), (12, None), (0, 0), (-1, -1)]:
            self.assertEqual(described(Frame("keys", start, end)), ("keys", start, end, "nothing"))


class Regions(unittest.TestCase):
    def test_each_unit(self):
        self.assertIs(Frame("rows", -2, 3).region() == rows_between(-2, 3), True)
        self.assertIs(Frame("groups", None, 3).region() == groups_between(None, 3), True)
        self.assertIs(Frame("keys", -10 ** 9, None).region() == keys_between(-10 ** 9, None), True)

    def test_each_without(self):
        self.assertIs(Frame("rows", -2, 3, without="nothing").region() == rows_between(-2, 3), True)
        self.assertIs(Frame("rows", -2, 3, without="current").region() == rows_between(-2, 3) - own_row(), True)
        self.assertIs(Frame("rows", -2, 3, without="group").region() == rows_between(-2, 3) - own_group(), True)
        self.assertIs(Frame("rows", -2, 3, without="ties").region() == rows_between(-2, 3) - ties(), True)

    def test_by_the_definition(self):
        for frame in FRAMES:
            region = frame.region()
            self.assertIsInstance(region, Region)
            self.assertEqual(members(region), triples_in(frame), described(frame))

    def test_frames_of_nothing(self):
        for frame in [Frame("rows", 0, 0, without="current"), Frame("keys", 0, 0, without="group")]:
            self.assertIs(frame.region() == nothing(), True)

    def test_unequal_frames_with_equal_regions(self):
        first, second = Frame("rows", None, 0, without="group"), Frame("groups", None, -1)
        self.assertIs(first == second, False)
        self.assertIs(first.region() == second.region(), True)


class Order(unittest.TestCase):
    def check(self, first, second):
        self.assertIs(first.before(second), True)
        self.assertIs(second.before(first), False)

    def test_without_comes_first(self):
        for first, second in itertools.combinations(WITHOUTS, 2):
            self.check(Frame("keys", 5, None, without=first), Frame("rows", None, -5, without=second))

    def test_then_the_unit(self):
        for first, second in itertools.combinations(UNITS, 2):
            self.check(Frame(first, 5, None), Frame(second, None, -5))

    def test_then_the_start(self):
        for first, second in itertools.combinations([None, -12, -1, 0, 1, 12], 2):
            self.check(Frame("rows", first, None), Frame("rows", second, 12))

    def test_then_the_end(self):
        for first, second in itertools.combinations([-12, -1, 0, 1, 12, None], 2):
            self.check(Frame("rows", None, first), Frame("rows", None, second))
            self.check(Frame("keys", -20, first), Frame("keys", -20, second))

    def test_all_small_frames(self):
        frames = frames_in_order(1)
        for (place, first), (other_place, second) in itertools.product(enumerate(frames), repeat=2):
            self.assertIs(first.before(second), place < other_place)

    def test_not_before_itself(self):
        self.assertIs(Frame("rows", None, None).before(Frame("rows", None, None)), False)


class Equality(unittest.TestCase):
    def test_attributes(self):
        frame = Frame("rows", -1, 2, without="ties")
        self.assertIs(frame == Frame("rows", -1, 2, without="ties"), True)
        self.assertIs(frame != Frame("rows", -1, 2, without="ties"), False)
        self.assertIs(Frame("rows", -1, 2) == Frame("rows", -1, 2, without="nothing"), True)
        for other in [
            Frame("groups", -1, 2, without="ties"), Frame("rows", -2, 2, without="ties"),
            Frame("rows", None, 2, without="ties"), Frame("rows", -1, 3, without="ties"),
            Frame("rows", -1, None, without="ties"), Frame("rows", -1, 2), Frame("rows", -1, 2, without="group"),
        ]:
            self.assertIs(frame == other, False)
            self.assertIs(frame != other, True)

    def test_with_other_values(self):
        frame = Frame("rows", 0, 0)
        for other in [None, 0, "rows", ("rows", 0, 0, "nothing"), {}, frame.region(), own_row(), Frame, object()]:
            self.assertIs(frame == other, False)
            self.assertIs(other == frame, False)


class FirstFrame(unittest.TestCase):
    def check(self, region, *expected):
        frame = first_frame(region)
        self.assertIsInstance(frame, Frame)
        self.assertEqual(described(frame), expected)
        self.assertIs(frame.region() == region, True)

    def test_regions_of_frames(self):
        firsts = {}
        for frame in FRAMES:
            firsts.setdefault(frozenset(triples_in(frame)), frame)
        for frame in FRAMES:
            expected = firsts[frozenset(triples_in(frame))]
            self.assertEqual(described(first_frame(frame.region())), described(expected))

    def test_one_frame(self):
        self.check(rows_between(-2, 0), "rows", -2, 0, "nothing")
        self.check(rows_between(-12, 12) - own_row(), "rows", -12, 12, "current")
        self.check(keys_between(5, 10 ** 9), "keys", 5, 10 ** 9, "nothing")
        self.check(keys_between(None, -2 * 10 ** 9), "keys", None, -2 * 10 ** 9, "nothing")

    def test_several_frames(self):
        self.check(every(), "rows", None, None, "nothing")
        self.check(own_row(), "rows", 0, 0, "nothing")
        self.check(own_group(), "groups", 0, 0, "nothing")
        self.check(groups_between(None, -1), "groups", None, -1, "nothing")
        self.check(groups_between(1, None), "groups", 1, None, "nothing")
        self.check(keys_between(0, None), "groups", 0, None, "nothing")
        self.check(ties(), "groups", 0, 0, "current")
        self.check(~own_group(), "rows", None, None, "group")
        self.check(~ties(), "rows", None, None, "ties")
        self.check(groups_between(None, -1) | own_row(), "rows", None, 0, "ties")
        self.check(keys_between(7, 9), "keys", 7, 9, "nothing")
        self.check(keys_between(-3, 9) - own_group(), "keys", -3, 9, "group")

    def test_the_start_may_be_one_that_no_cell_shows(self):
        self.check(rows_between(1, 5) - own_group(), "rows", 0, 5, "group")
        self.check(groups_between(-4, -2), "groups", -4, -2, "nothing")

    def test_no_offset(self):
        self.check(nothing(), "rows", 0, 0, "current")

    def test_no_frame(self):
        for region in [
            ~own_row() & rows_between(-2, 1) & groups_between(0, 3), rows_between(-3, -2) | rows_between(2, 3),
            ties() & rows_between(1, None), rows_between(-2, 0) & keys_between(-9, 9), groups_between(2, 3) | own_row(),
            rows_between(None, -1) - ties() | groups_between(3, None),
        ]:
            self.assertIsNone(first_frame(region))

    def test_many_cells(self):
        striped = nothing()
        for end in range(1, 9):
            striped = striped ^ rows_between(-end, 2 * end) ^ groups_between(-end, end) ^ keys_between(-7 * end, 9 * end)
        self.assertIsNone(first_frame(striped))

    def test_other_regions(self):
        firsts = {}
        for frame in FRAMES:
            firsts.setdefault(frozenset(triples_in(frame)), frame)
        found = 0
        for region, inside, text in mixed_samples(24, 150):
            expected = firsts.get(frozenset(inside))
            self.assertEqual(described(first_frame(region)), described(expected) if expected else None, text)
            found += expected is not None
        self.assertGreater(found, 20)

    def test_the_region_stays_as_it_was(self):
        region = rows_between(-2, 0)
        first_frame(region)
        self.assertIs(region == rows_between(-2, 0), True)


if __name__ == "__main__":
    unittest.main()
