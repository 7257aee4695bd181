"""Texts: their lines, the words of a line, and names."""

LETTERS = "abcdefghijklmnopqrstuvwxyz"
LONGEST_NAME = 12
RESERVED = (
    "table", "index", "of", "in", "from", "at", "by", "keep", "first", "last", "all", "where", "until", "find",
    "get", "need", "each", "if", "else", "end", "put", "next", "and", "not", "is", "some", "before", "has",
    "missing", "none",
)


def lines_of(text):
    """Return the lines of a text; the empty text has none."""
    if text == "":
        return []
    return text.split("\n")


def words_of(line):
    """Return the words of a line, empty ones too: these match nothing, so a line with one is wrong."""
    return line.split(" ")


def is_name(text):
    """Tell whether a text is a name."""
    if len(text) < 1 or len(text) > LONGEST_NAME or text in RESERVED:
        return False
    return all(letter in LETTERS for letter in text)
