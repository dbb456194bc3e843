"""Tokens of a text, and the spaces between them."""

from windowrows.names import LETTERS
from windowrows.stretches import DIGITS


class Reader:
    """A place in a text: the index of the next token, or the length of the text."""

    def __init__(self, text):
        self.text = text
        self.place = 0
        self.move(0)

    def move(self, behind):
        """Go to the first character from this index on that is no space."""
        while self.text[behind:behind + 1] == " ":
            behind += 1
        self.place = behind

    def token(self):
        """Return the next word or other character, or "" at the end."""
        end = self.place
        while end < len(self.text) and self.text[end] in LETTERS:
            end += 1
        return self.text[self.place:max(end, self.place + 1)]

    def digits(self):
        """Return the longest sequence of digits at the place, which may be ""."""
        end = self.place
        while end < len(self.text) and self.text[end] in DIGITS:
            end += 1
        return self.text[self.place:end]

    def takes(self, token):
        """Return whether the next token is this one; if so, go behind it."""
        if self.token() != token:
            return False
        self.move(self.place + len(token))
        return True
