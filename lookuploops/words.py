"""Texts: their lines, the words of a line, names and written integers."""

LETTERS = "abcdefghijklmnopqrstuvwxyz"
LONGEST_NAME = 12
DIGITS = "0123456789"
MOST_DIGITS = 20
RESERVED = (
    "table", "index", "of", "in", "from", "at", "by", "keep", "first", "last", "all", "where", "until", "find",
    "get", "need", "each", "if", "else", "end", "put", "next", "and", "not", "is", "some", "before", "has",
    "missing", "none",
)


def lines_of(text):
    """Return the lines of a text; the empty text has none."""
    if text == "":
        return []
    return text.split("\n")


def words_of(line):
    """Return the words of a line, empty ones too: these match nothing, so a line with one is wrong."""
    return line.split(" ")


def is_name(text):
    """Tell whether a text is a name."""
    if len(text) < 1 or len(text) > LONGEST_NAME or text in RESERVED:
        return False
    return all(letter in LETTERS for letter in text)


def is_written_integer(word):
    """Tell whether a word is a written integer: no sign but `-`, no zero ahead, at most 20 digits."""
    digits = word.removeprefix("-")
    if word == "0":
        return True
    if len(digits) < 1 or len(digits) > MOST_DIGITS or digits[0] == "0":
        return False
    return all(digit in DIGITS for digit in digits)


def split_at(words, mark):
    """Return the lists of words between the words that are this mark."""
    lists = [[]]
    for word in words:
        if word == mark:
            lists.append([])
        else:
            lists[-1].append(word)
    return lists
