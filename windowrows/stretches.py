"""Stretches of consecutive integers, and their texts."""

from windowrows.errors import BadText, TurnedStretch

DIGITS = "0123456789"
MOST_DIGITS = 13


class Stretch:
    """The integers from low to high; an end that is None is open."""

    def __init__(self, low, high):
        if turned(low, high):
            raise TurnedStretch(low, high)
        self.low = low
        self.high = high

    def meet(self, other):
        """Return the stretch of the integers in both, or None."""
        low = _greater_low(self.low, other.low)
        high = _lesser_high(self.high, other.high)
        if turned(low, high):
            return None
        return Stretch(low, high)

    def within(self, other):
        """Return whether every member is a member of the other stretch."""
        if other.low is not None and (self.low is None or self.low < other.low):
            return False
        return other.high is None or (self.high is not None and self.high <= other.high)

    def __contains__(self, number):
        if self.low is not None and number < self.low:
            return False
        return self.high is None or number <= self.high

    def __neg__(self):
        return Stretch(_negated(self.high), _negated(self.low))

    def __eq__(self, other):
        return isinstance(other, Stretch) and self.low == other.low and self.high == other.high

    def __str__(self):
        return f"{_written_end(self.low)}..{_written_end(self.high)}"


def read_stretch(text):
    """Return the stretch that the whole text describes."""
    found = stretch_at(text, 0)
    if found is None:
        raise BadText(0)
    low, high, behind = found
    if behind < len(text):
        raise BadText(behind)
    try:
        return Stretch(low, high)
    except TurnedStretch as turned:
        raise BadText(0) from turned


def stretch_at(text, start):
    """Return (low, high, index behind) of the longest stretch text at start.

    Return None if there is none. The ends may be turned.
    """
    # The longest number is the only one that dots can follow: behind a
    # shorter one stands a digit.
    dots = number_end(text, start)
    if text[dots:dots + 2] != "..":
        return None
    behind = number_end(text, dots + 2)
    return _read_end(text[start:dots]), _read_end(text[dots + 2:behind]), behind


def number_end(text, start):
    """Return the index behind the longest number at start.

    Return start itself if no number begins there.
    """
    first = start
    if text[start:start + 1] == "-":
        first = start + 1
    if text[first:first + 1] == "0":
        # A zero is a number of its own, and it has no sign.
        return first + 1 if first == start else start
    end = first
    while end < len(text) and end - first < MOST_DIGITS and text[end] in DIGITS:
        end += 1
    return end if end > first else start


def turned(low, high):
    """Return whether both ends are integers and the low one is greater."""
    return low is not None and high is not None and low > high


def _greater_low(first, second):
    if first is None:
        return second
    if second is None:
        return first
    return max(first, second)


def _lesser_high(first, second):
    if first is None:
        return second
    if second is None:
        return first
    return min(first, second)


def _negated(end):
    return None if end is None else -end


def _read_end(word):
    return int(word) if word else None


def _written_end(end):
    return "" if end is None else str(end)
