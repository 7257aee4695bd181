"""Indexes and statements, as a program holds them when it was read. Nothing changes them later."""

SEARCHES = ("find", "last")
GETS = ("get", "need")


class Index:
    """An index line: `way` is one of the words first, last and all, `at` the place of its column."""

    def __init__(self, name, row, table, at, way, where):
        self.name = name
        self.row = row
        self.table = table
        self.at = at
        self.way = way
        self.where = where


class Statement:
    """A statement: its line and first word, and of the rest what such a line has.

    A loop, a search, a `get` and a `need` have `row` and `table`; with `from` also `index`, an Index, and `term`,
    behind `at`. `where` is a list of conditions, and `until` one or None. An `if` has its conditions as `where`.
    The statements of a loop, or ahead of `else`, are `inner`, those behind `else` are `other`. A `put` has its
    `label` and `terms`.
    """

    def __init__(self, number, word):
        self.number = number
        self.word = word
        self.row = None
        self.table = None
        self.index = None
        self.term = None
        self.where = []
        self.until = None
        self.inner = []
        self.other = []
        self.label = None
        self.terms = []
