"""Programs: loops, searches and look-ups over the tables of a schema."""

from lookuploops.errors import NoLine
from lookuploops.reading import read_source
from lookuploops.runs import Run
from lookuploops.schema import Schema
from lookuploops.words import lines_of


class Program:
    """A program, read from its text. Programs never change."""

    def __init__(self, text):
        self.text = text
        self._source = read_source(text)
        self._rows = lines_of(text)
        self._schema = Schema("\n".join(self._rows[:len(self._source.columns_of)]))

    @classmethod
    def over(cls, schema, text):
        """Return the program of the table lines of a schema and the lines of a text behind them."""
        rows = [" ".join(("table", table) + schema.columns(table)) for table in schema.tables]
        return cls("\n".join(rows + lines_of(text)))

    @property
    def schema(self):
        """The schema of the table lines."""
        return self._schema

    def __getitem__(self, line):
        if line < 1 or line > len(self._rows):
            raise NoLine(line)
        return self._rows[line - 1]

    def __iter__(self):
        return iter(self._rows)

    def __call__(self, tables):
        """Return the result of a run: the dict from the paths to what was put there."""
        return self.ran(tables).result

    def looks(self, tables):
        """Return the number of rows that a run looks at."""
        return self.ran(tables).seen

    def ran(self, tables):
        """Return the ended run over some tables."""
        self._schema.check(tables)
        run = Run(self._source, tables)
        run.go()
        return run

    def source(self):
        """Return what was read from the text; it is not to be changed."""
        return self._source
