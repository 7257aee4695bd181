"""The errors of this package.

Each is made from its fields and keeps them as attributes. Python shows and copies an error by what it was
made from, so there are no further messages here.
"""


class LookError(ValueError):
    """The base of all errors of this package."""


class BadTables(LookError):
    """Tables in which `table` is lacking, has a wrong row, or is strange to the schema."""

    def __init__(self, table):
        self.table = table


class BadFact(LookError):
    """The line at `index`, from 0, is no fact, or leads back to a table, or is not declared."""

    def __init__(self, index):
        self.index = index


class BadProgram(LookError):
    """The line `line`, from 1, is the first wrong one of a text."""

    def __init__(self, line):
        self.line = line


class OtherTables(LookError):
    """Schemas, facts or programs that should be over the same tables are not."""


class NoLine(LookError):
    """There is no line `line` of the kind that was asked for."""

    def __init__(self, line):
        self.line = line


class NoKey(LookError):
    """The line `line` has no key condition to exchange it by."""

    def __init__(self, line):
        self.line = line


class NoName(LookError):
    """Nothing is called `name`."""

    def __init__(self, name):
        self.name = name


class BadName(LookError):
    """The text `name` is no name."""

    def __init__(self, name):
        self.name = name


class Taken(LookError):
    """Something is called `name` already."""

    def __init__(self, name):
        self.name = name


class NotAlike(LookError):
    """The program `name` would not be alike to its first one, as `tables` show."""

    def __init__(self, name, tables):
        self.name = name
        self.tables = _copied(tables)


class Rests(LookError):
    """The program `name` rests on a fact, as `tables` show."""

    def __init__(self, name, tables):
        self.name = name
        self.tables = _copied(tables)


class BrokenFact(LookError):
    """Tables do not keep the declared fact `fact`."""

    def __init__(self, fact):
        self.fact = fact


class NothingToUndo(LookError):
    """There is no change that could be taken back."""


def _copied(tables):
    # What is no dict stays as it is: making an error must not hide it behind another one.
    if not isinstance(tables, dict):
        return tables
    return {table: list(rows) for table, rows in tables.items()}
