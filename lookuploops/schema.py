"""The schema: which tables there are, and with which columns."""

from lookuploops.errors import BadProgram, BadTables, NoName
from lookuploops.words import is_name, lines_of, words_of

MOST_TABLES = 4
MOST_COLUMNS = 3


class Schema:
    """The tables that a text of table lines declares. A schema never changes."""

    def __init__(self, text):
        self._columns = declared_tables(text)
        self.tables = tuple(self._columns)

    def columns(self, table):
        """Return the tuple of the columns of a table."""
        if table not in self._columns:
            raise NoName(table)
        return self._columns[table]

    def fits(self, other):
        """Tell whether another schema has the same tables with the same columns, the tables in any order."""
        return self._columns == other._columns

    def check(self, tables):
        """Raise BadTables if the tables lack one of the schema, have a wrong row, or are too many."""
        for table in self.tables:
            if table not in tables or not are_rows(tables[table], len(self._columns[table])):
                raise BadTables(table)
        strange = sorted([table for table in tables if table not in self._columns])
        if strange:
            raise BadTables(strange[0])


def declared_tables(text):
    """Return the dict from the tables to their columns, in the order of the lines."""
    lines = lines_of(text)
    if not lines:
        raise BadProgram(1)
    tables = {}
    for number, line in enumerate(lines, start=1):
        words = words_of(line)
        if number > MOST_TABLES or not is_table_line(words) or words[1] in tables:
            raise BadProgram(number)
        tables[words[1]] = tuple(words[2:])
    return tables


def is_table_line(words):
    """Tell whether the words of a line have the form of a table line."""
    if words[0] != "table" or len(words) < 3 or len(words) > 2 + MOST_COLUMNS:
        return False
    columns = words[2:]
    return all(is_name(word) for word in words[1:]) and len(set(columns)) == len(columns)


def are_rows(rows, width):
    """Tell whether each row has one integer for each column."""
    return all(is_row(row, width) for row in rows)


def is_row(row, width):
    """Tell whether a row is a tuple of so many integers."""
    return isinstance(row, tuple) and len(row) == width and all(is_integer(value) for value in row)


def is_integer(value):
    """Tell whether a value is an integer; True and False are none here, though they are for Python."""
    return isinstance(value, int) and not isinstance(value, bool)
