"""Facts: what the tables are known to keep."""

from lookuploops.errors import BadFact, OtherTables
from lookuploops.factlines import read_fact, read_facts
from lookuploops.implied import follows
from lookuploops.keeping import keeps


class Facts:
    """Facts over the tables of a schema, from a list of lines. Facts never change."""

    def __init__(self, schema, lines):
        self._schema = schema
        self._facts = read_facts(schema, lines)

    @property
    def lines(self):
        """The list of the lines, each once."""
        return list(self._facts)

    def __iter__(self):
        return iter(self._facts)

    def __contains__(self, line):
        return line in self._facts

    def __or__(self, other):
        if not self._schema.fits(other._schema):
            raise OtherTables()
        return Facts(self._schema, self.lines + other.lines)

    def broken(self, tables):
        """Return the first line that the tables do not keep, or None."""
        self._schema.check(tables)
        for line, fact in self._facts.items():
            if not keeps(self._schema, tables, fact):
                return line
        return None

    def are_over(self, schema):
        """Tell whether these are facts over the tables of a schema."""
        return self._schema.fits(schema)

    def as_read(self):
        """Return the list of the facts, as they were read from the lines."""
        return list(self._facts.values())

    def implies(self, line):
        """Tell whether all tables that keep these facts keep the fact of a line, too."""
        fact = read_fact(self._schema, line)
        if fact is None:
            raise BadFact(0)
        return follows(list(self._facts.values()), fact)
