"""The errors of the program.

The values that an error is made with are kept as they are and are not put
into a text, because callers may make errors with any values.
"""


class WindowError(ValueError):
    """The base class of all errors of the program."""


class TurnedStretch(WindowError):
    """The low end of a stretch is greater than its high end."""

    def __init__(self, low, high):
        self.low = low
        self.high = high


class BadOffset(WindowError):
    """The three numbers do not form a possible offset."""

    def __init__(self, rows, groups, distance):
        self.rows = rows
        self.groups = groups
        self.distance = distance


class BadText(WindowError):
    """A text does not follow its grammar; place is an index in the text."""

    def __init__(self, place):
        self.place = place


class BadFrame(WindowError):
    """The unit or the exclusion of a frame is not one of the known words."""

    def __init__(self, word):
        self.word = word


class BadScheme(WindowError):
    """A word breaks a condition for schemes."""

    def __init__(self, word):
        self.word = word


class UnknownSort(WindowError):
    """The scheme has no sort of this name."""

    def __init__(self, name):
        self.name = name


class UnknownColumn(WindowError):
    """The scheme has no column of this name, or none of the kind needed."""

    def __init__(self, name):
        self.name = name


class BadRow(WindowError):
    """The row with this number does not fit the scheme in this column."""

    def __init__(self, number, column):
        self.number = number
        self.column = column


class BadNumber(WindowError):
    """There is no row or no lay with this number."""

    def __init__(self, number):
        self.number = number


class BadLay(WindowError):
    """The sort of this name has no list, or a list that is not sorted."""

    def __init__(self, name):
        self.name = name


class NotPeers(WindowError):
    """The two rows are not peers that stand next to each other."""

    def __init__(self, row, other):
        self.row = row
        self.other = other


class MarkTwice(WindowError):
    """A mark occurs twice among the wanted and barred marks of a term."""

    def __init__(self, mark):
        self.mark = mark


class OtherScheme(WindowError):
    """Two things that belong together have different schemes."""


class NoSuchName(WindowError):
    """No formula is shown under this name."""

    def __init__(self, name):
        self.name = name


class NothingToUndo(WindowError):
    """There is no change that can be taken back."""


class NothingToRedo(WindowError):
    """There is no change that was taken back and can be made again."""


class BadUnique(WindowError):
    """The unique set with this index is not a proper list of columns."""

    def __init__(self, index):
        self.index = index


class BadFix(WindowError):
    """The list of the fix with this index is not a proper list of columns."""

    def __init__(self, index):
        self.index = index


class SeveralSorts(WindowError):
    """The terms of a formula belong to more than one sort."""


class BadLine(WindowError):
    """A line for the desk has none of the known forms."""
