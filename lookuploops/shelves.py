"""Shelves: programs under names, each alike to its first one under declared facts."""

from lookuploops.errors import BadFact, BadName, BrokenFact, NoName, NotAlike, NothingToUndo, OtherTables
from lookuploops.errors import Rests, Taken
from lookuploops.facts import Facts
from lookuploops.questions import parting
from lookuploops.words import is_name


class Stand:
    """How a shelf stands between two changes; a stand never changes.

    `pairs` is the dict from the names to the pairs of the first and the present program, `declared` are the
    facts, and `before` is the stand ahead of the latest change, or None.
    """

    def __init__(self, pairs, declared, before):
        self.pairs = pairs
        self.declared = declared
        self.before = before


class Shelf:
    """Programs over the tables of a schema."""

    def __init__(self, schema):
        self._over = schema
        self._stand = Stand({}, Facts(schema, []), None)

    def keep(self, name, program):
        """Take a program in under a new name."""
        if not is_name(name):
            raise BadName(name)
        if name in self._stand.pairs:
            raise Taken(name)
        self._check(program)
        self._set(name, program, program)

    def __getitem__(self, name):
        _, present = self._pair(name)
        return present

    def __setitem__(self, name, program):
        original, _ = self._pair(name)
        self._check(program)
        tables = parting(original, program, under=self._stand.declared)
        if tables is not None:
            raise NotAlike(name, tables)
        self._set(name, original, program)

    def first(self, name):
        """Return the first program of a name."""
        original, _ = self._pair(name)
        return original

    def accept(self, name):
        """Make the present program of a name its first one."""
        _, present = self._pair(name)
        self._set(name, present, present)

    def __contains__(self, name):
        return name in self._stand.pairs

    def __iter__(self):
        return iter(self._stand.pairs)

    @property
    def facts(self):
        """The declared facts."""
        return self._stand.declared

    def declare(self, lines):
        """Declare the facts of a list of lines as well."""
        known = self.facts.lines
        try:
            declared = Facts(self._over, known + list(lines))
        except BadFact as wrong:
            index = wrong.index - len(known)
            raise BadFact(index) from None
        self._stand = Stand(self._stand.pairs, declared, self._stand)

    def withdraw(self, line):
        """Declare a fact no longer."""
        if line not in self.facts:
            raise BadFact(0)
        declared = Facts(self._over, [other for other in self.facts.lines if other != line])
        for name, (original, present) in self._stand.pairs.items():
            tables = parting(original, present, under=declared)
            if tables is not None:
                raise Rests(name, tables)
        self._stand = Stand(self._stand.pairs, declared, self._stand)

    def run(self, name, tables):
        """Return the result of a run of the present program of a name."""
        _, present = self._pair(name)
        present.schema.check(tables)
        broken = self.facts.broken(tables)
        if broken is not None:
            raise BrokenFact(broken)
        return present(tables)

    def undo(self):
        """Take back the latest change that is not taken back."""
        if self._stand.before is None:
            raise NothingToUndo()
        self._stand = self._stand.before

    def attempt(self, action):
        """Return what action(shelf) returns; if an exception leaves it, the shelf is as before."""
        before = self._stand
        done = None
        try:
            told = action(self)
            done = True
        finally:
            if done is None:
                self._stand = before
        return told

    def _pair(self, name):
        if name not in self._stand.pairs:
            raise NoName(name)
        return self._stand.pairs[name]

    def _check(self, program):
        if not program.schema.fits(self._over):
            raise OtherTables()

    def _set(self, name, original, present):
        pairs = dict(self._stand.pairs)
        pairs[name] = (original, present)
        self._stand = Stand(pairs, self._stand.declared, self._stand)
