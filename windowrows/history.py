"""Histories: a state, and those that can be returned to."""

from windowrows.errors import NothingToRedo, NothingToUndo


class History:
    """The state now, those before each change, and those that can be made again.

    past has the latest state at its end, future has the next one at its
    beginning. A history does not change; its methods return another one.
    """

    def __init__(self, past, now, future):
        self.past = past
        self.now = now
        self.future = future

    def changed(self, state):
        """Return the history after a change to a new state."""
        return History((*self.past, self.now), state, ())

    def undone(self):
        """Return the history after the last change is taken back."""
        if not self.past:
            raise NothingToUndo()
        return History(self.past[:-1], self.past[-1], (self.now, *self.future))

    def redone(self):
        """Return the history after the change that was taken back last is made again."""
        if not self.future:
            raise NothingToRedo()
        return History((*self.past, self.now), self.future[0], self.future[1:])
