"""What searches and look-ups ask, with the rows that they read, each known by a number.

A row is known by a reference: 0 for none, a path reference for the row of a loop of the path, a greater number
for the row that a search comes to. So two searches that ask the same come to one row and have one number. In
the conditions of a search OWN stands for the row that is looked at.

A term is (reference, place of the column), or (WRITTEN, integer). A condition is (negated, word, left, right)
with terms or references as sides.
"""

OWN = -1
WRITTEN = -2
NO_ROW = 0
MOST_PATH = 9
OWN_NAME = ""


class Searches:
    """The searches that were met: `asked` is the dict from their numbers to (way, table, where, until)."""

    def __init__(self):
        self.asked = {}
        self.numbers = {}

    def reference(self, search, names):
        """Return the reference of the row that a search comes to."""
        way, table, where, until = search
        where = self.read_all(where, names)
        if where is None:
            return NO_ROW
        if until is not None:
            until = self.read_all(until, names)
        if until is not None and all(condition in where for condition in until):
            # Each row that fits ends the search first.
            return NO_ROW
        question = (way, table, where, until)
        if question not in self.numbers:
            number = MOST_PATH + 1 + len(self.numbers)
            self.numbers[question] = number
            self.asked[number] = question
        return self.numbers[question]

    def read_all(self, conditions, names):
        """Return the tuple of what conditions ask, or None if they surely do not hold together."""
        told = {}
        for condition in conditions:
            read = self.read(condition, names)
            if read is False:
                return None
            if read is not True:
                told[read] = True
        return tuple(sorted(told))

    def read(self, condition, names):
        """Return what a condition asks, or True or False if that is sure already."""
        negated, word, left, right = condition
        if word == "=" or word == "<":
            read = of_terms(word, term_of(left, names), term_of(right, names))
        elif word == "is" or word == "before":
            read = of_rows(word, row_of(left, names), row_of(right, names))
        elif word == "has":
            read = of_row(self.reference(left, names))
        else:
            read = of_row(row_of(left, names))
        if read is True or read is False:
            return read != negated
        return (negated,) + read


def row_of(name, names):
    """Return the reference of the row that a name is set to."""
    return OWN if name == OWN_NAME else names.get(name, NO_ROW)


def term_of(term, names):
    """Return a term with the reference of its row; all terms of rows that are none are the same."""
    if isinstance(term, int):
        return WRITTEN, term
    name, at = term
    row = row_of(name, names)
    return (NO_ROW, 0) if row == NO_ROW else (row, at)


def is_sure(row):
    """Tell whether a reference is surely one of a row."""
    return row == OWN or NO_ROW < row <= MOST_PATH


def of_terms(word, left, right):
    if left[0] == NO_ROW or right[0] == NO_ROW:
        return False
    if left[0] == WRITTEN and right[0] == WRITTEN:
        return left[1] == right[1] if word == "=" else left[1] < right[1]
    if left == right and is_sure(left[0]):
        return word == "="
    if word == "=" and right < left:
        return word, right, left
    return word, left, right


def of_rows(word, left, right):
    if left == NO_ROW or right == NO_ROW:
        return False
    if left == right:
        return False if word == "before" else of_row(left)
    if word == "is" and right < left:
        return word, right, left
    return word, left, right


def of_row(row):
    if row == NO_ROW or is_sure(row):
        return row != NO_ROW
    return "some", row, NO_ROW


def rows_read(conditions):
    """Return the references of searches that conditions read, in their order."""
    rows = []
    for _, word, left, right in conditions:
        if word == "=" or word == "<":
            rows.extend([left[0], right[0]])
        else:
            rows.extend([left, right])
    return [row for row in rows if row > MOST_PATH]
