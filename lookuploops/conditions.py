"""Conditions and their terms, as a program reads them.

A term is an integer or a cell, the tuple (row, table, at) of the name of a row, its table and the place of the
column. A condition is a tuple (negated, word, left, right). Of its two sides `=` and `<` have terms, `is` and
`before` names of rows, `some` a name and None, and `has` the name of an index and a term.
"""

from lookuploops.words import is_written_integer

MOST_CONDITIONS = 4
OF_TERMS = ("=", "<")
OF_ROWS = ("is", "before")


class Scope:
    """What conditions and terms may name: rows with their tables, and indexes; `plain` ones only terms."""

    def __init__(self, columns_of, rows, indexes, plain=False):
        self.columns_of = columns_of
        self.rows = rows
        self.indexes = indexes
        self.plain = plain


def read_term(scope, word):
    """Return the term of a word, or None if it is none."""
    if is_written_integer(word):
        return int(word)
    row, _, column = word.partition(".")
    if row not in scope.rows:
        return None
    table = scope.rows[row]
    if column not in scope.columns_of[table]:
        return None
    return row, table, scope.columns_of[table].index(column)


def read_conditions(scope, lists):
    """Return the list of the conditions of lists of words, or None if one of them is none or they are too many."""
    conditions = [read_condition(scope, words) for words in lists]
    if len(conditions) > MOST_CONDITIONS or None in conditions:
        return None
    return conditions


def read_condition(scope, words):
    """Return the condition of a list of words, or None if they are none."""
    negated = words[:1] == ["not"]
    if negated:
        words = words[1:]
    sides = None
    if len(words) == 3 and words[1] in OF_TERMS:
        sides = read_terms(scope, words[0], words[2])
    elif scope.plain:
        return None
    elif len(words) == 3 and words[1] in OF_ROWS:
        sides = read_rows(scope, words[0], words[2])
    elif len(words) == 3 and words[1] == "has":
        sides = read_question(scope, words[0], words[2])
    elif len(words) == 2 and words[0] == "some" and words[1] in scope.rows:
        return negated, "some", words[1], None
    if sides is None:
        return None
    return negated, words[1], sides[0], sides[1]


def read_terms(scope, left, right):
    """Return the terms of both sides, or None if one of them is none."""
    sides = [read_term(scope, left), read_term(scope, right)]
    return None if None in sides else sides


def read_rows(scope, left, right):
    """Return the names of two rows of the same table, or None if they are none."""
    if left not in scope.rows or right not in scope.rows or scope.rows[left] != scope.rows[right]:
        return None
    return [left, right]


def read_question(scope, name, word):
    """Return the name of an index and the term that it is asked for, or None."""
    term = read_term(scope, word)
    if name not in scope.indexes or term is None:
        return None
    return [name, term]
