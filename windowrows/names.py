"""Names of columns and sorts."""

LETTERS = "abcdefghijklmnopqrstuvwxyz"
MOST_LETTERS = 8
OTHER_WORDS = (
    "rows", "groups", "keys", "self", "ties", "group", "all", "none", "sum", "count", "by", "not",
)


def is_name(word):
    """Return whether a string may be the name of a column or a sort."""
    if word == "" or len(word) > MOST_LETTERS or word in OTHER_WORDS:
        return False
    return all([letter in LETTERS for letter in word])
