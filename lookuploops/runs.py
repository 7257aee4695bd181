"""Runs of a program over tables, row by row, with a count of the rows that are looked at."""


class Run:
    """One run. `result` is the dict from the paths to what was put, `seen` counts the rows that were looked at.

    In `names` are the places of the rows that names are set to by now; names that are none are None or lacking.
    """

    def __init__(self, code, tables):
        self.code = code
        self.tables = tables
        self.result = {}
        self.seen = 0
        self.path = ()
        self.names = {}
        self.kept = {}

    def go(self):
        """Build the indexes and do the statements."""
        for name, index in self.code.indexes.items():
            self.kept[name] = self.built(index)
        self.ends(self.code.statements)

    def built(self, index):
        """Return the dict from the values to the places that an index keeps for them."""
        kept = {}
        for place, row in enumerate(self.tables[index.table]):
            self.seen += 1
            if not self.holds(index.where, {index.row: place}):
                continue
            value = row[index.at]
            if index.way == "last" or value not in kept:
                kept[value] = [place]
            elif index.way == "all":
                kept[value].append(place)
        return kept

    def ends(self, statements):
        """Do statements; return whether one of them ended the turn, or the run, that they stand in."""
        for statement in statements:
            if self.does(statement):
                return True
        return False

    def does(self, statement):
        """Do one statement; return whether it ended the turn or the run."""
        word = statement.word
        if word == "next":
            return True
        if word == "put":
            self.tell((statement.label,) + tuple(self.written(term) for term in statement.terms))
        elif word == "if":
            return self.ends(statement.inner if self.holds(statement.where, self.names) else statement.other)
        elif word == "each":
            self.loop(statement)
        elif word == "find" or word == "last":
            self.names[statement.row] = self.search(statement)
        else:
            return self.look_up(statement)
        return False

    def tell(self, told):
        self.result.setdefault(self.path, []).append(told)

    def loop(self, statement):
        """Go through the rows of a loop; what a turn sets is forgotten at its end."""
        ahead = self.names
        path = self.path
        table = statement.table
        for place in self.gone_through(statement):
            self.seen += 1
            self.names = dict(ahead)
            self.names[statement.row] = place
            if self.holds(statement.where, self.names):
                self.path = path + ((table, place),)
                self.ends(statement.inner)
        self.names = ahead
        self.path = path

    def gone_through(self, statement):
        """Return the places that a loop or a search goes through, in their order."""
        if statement.index is None:
            return list(range(len(self.tables[statement.table])))
        self.seen += 1
        return self.kept_for(statement.index.name, self.value(statement.term, self.names))

    def kept_for(self, name, value):
        """Return the list of the places that an index keeps for a value; it has none for none."""
        return self.kept[name].get(value, [])

    def search(self, statement):
        """Return the place that a search comes to, or None."""
        found = None
        names = dict(self.names)
        for place in self.gone_through(statement):
            self.seen += 1
            names[statement.row] = place
            if statement.until is not None and self.holds(statement.until, names):
                return found
            if self.holds(statement.where, names):
                if statement.word == "find":
                    return place
                found = place
        return found

    def look_up(self, statement):
        """Set the row of a `get` or a `need`; return whether a `need` ended the turn."""
        self.seen += 1
        value = self.value(statement.term, self.names)
        kept = self.kept_for(statement.index.name, value)
        self.names[statement.row] = kept[0] if kept else None
        if kept or statement.word == "get":
            return False
        self.tell(("missing", "none" if value is None else value))
        return True

    def holds(self, conditions, names):
        """Tell whether each of the conditions holds; none is asked behind one that does not."""
        for negated, word, left, right in conditions:
            if negated == self.is_so(word, left, right, names):
                return False
        return True

    def is_so(self, word, left, right, names):
        """Tell whether a condition holds as it stands without `not`."""
        if word == "some":
            return names.get(left) is not None
        if word == "has":
            self.seen += 1
            return self.kept_for(left, self.value(right, names)) != []
        if word == "=" or word == "<":
            one = self.value(left, names)
            other = self.value(right, names)
        else:
            one = names.get(left)
            other = names.get(right)
        if one is None or other is None:
            return False
        if word == "=" or word == "is":
            return one == other
        return one < other

    def value(self, term, names):
        """Return the value of a term, or None if its row is none."""
        if isinstance(term, int):
            return term
        row, table, at = term
        place = names.get(row)
        return None if place is None else self.tables[table][place][at]

    def written(self, term):
        """Return the value of a term as it is put."""
        value = self.value(term, self.names)
        return "none" if value is None else value
