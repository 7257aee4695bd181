"""Another reading of what runs do, written line by line from the document, to compare with the package.

It takes right programs only, and notes what each line comes to, so that it also answers for small tables which
lines are reached, which hold and which find something.
"""


class Ended(Exception):
    """The turn of the innermost loop, or the run, ends."""


class Naive:
    def __init__(self, text, tables):
        self.lines = [line.split(" ") for line in text.split("\n")]
        self.tables = tables
        self.columns = {words[1]: words[2:] for words in self.lines if words[0] == "table"}
        self.rows = {}
        self.indexes = {}
        self.looks = 0
        self.result = {}
        self.noted = set()
        self.path = ()
        self.names = {}
        self.ends = self.pairs()
        self.tables_of_rows()
        for words in self.lines:
            if words[0] == "index":
                self.index(words)
        start = next((at for at, words in enumerate(self.lines) if words[0] not in ("table", "index")), None)
        if start is not None:
            try:
                self.block(start, len(self.lines))
            except Ended:
                pass

    def pairs(self):
        """For each line that opens a block the lines of its `else`, or None, and its `end`."""
        ends, opened, middle = {}, [], {}
        for at, words in enumerate(self.lines):
            if words[0] in ("each", "if"):
                opened.append(at)
            elif words[0] == "else":
                middle[opened[-1]] = at
            elif words[0] == "end":
                begin = opened.pop()
                ends[begin] = (middle.get(begin), at)
        return ends

    def tables_of_rows(self):
        indexes = {words[1]: words[5] for words in self.lines if words[0] == "index"}
        for words in self.lines:
            if words[0] in ("each", "find", "last", "get", "need"):
                self.rows[words[1]] = words[3] if words[2] == "in" else indexes[words[3]]

    def index(self, words):
        _, name, _, row, _, table, _, column, _, way, *rest = words
        at = self.columns[table].index(column)
        held = []
        for place, values in enumerate(self.tables[table]):
            self.looks += 1
            if self.holds(rest[1:], {row: place}, {row: table}):
                held.append((values[at], place))
        self.indexes[name] = (way, held)

    def kept(self, name, value):
        way, held = self.indexes[name]
        places = [place for own, place in held if own == value]
        return {"all": places, "first": places[:1], "last": places[-1:]}[way]

    def value(self, word, names, rows=None):
        if "." not in word:
            return int(word)
        row, column = word.split(".")
        table = (rows or self.rows)[row]
        if names.get(row) is None:
            return None
        return self.tables[table][names[row]][self.columns[table].index(column)]

    def holds(self, words, names, rows=None):
        """Whether conditions hold; without words there are none."""
        conditions, rest = [], list(words)
        while rest:
            cut = rest.index("and") if "and" in rest else len(rest)
            conditions.append(rest[:cut])
            rest = rest[cut + 1:]
        for condition in conditions:
            negated = condition[0] == "not"
            if self.meets(condition[negated:], names, rows) == negated:
                return False
        return True

    def meets(self, words, names, rows):
        if words[0] == "some":
            return names.get(words[1]) is not None
        left, word, right = words
        if word == "has":
            self.looks += 1
            return self.kept(left, self.value(right, names)) != []
        if word in ("is", "before"):
            one, other = names.get(left), names.get(right)
        else:
            one, other = self.value(left, names, rows), self.value(right, names, rows)
        if one is None or other is None:
            return False
        return one == other if word in ("is", "=") else one < other

    def told(self, word):
        value = self.value(word, self.names)
        return "none" if value is None else value

    def put(self, told):
        self.result.setdefault(self.path, []).append(told)

    def note(self, at, outcome):
        self.noted.add((at + 1, outcome))

    def block(self, at, stop):
        while at < stop:
            words = self.lines[at]
            self.note(at, None)
            if words[0] == "each":
                self.loop(at, words)
                at = self.ends[at][1]
            elif words[0] == "if":
                holds = self.holds(words[1:], self.names)
                self.note(at, holds)
                middle, end = self.ends[at]
                if holds:
                    self.block(at + 1, middle or end)
                elif middle:
                    self.block(middle + 1, end)
                at = end
            elif words[0] == "next":
                raise Ended
            elif words[0] == "put":
                self.put((words[1], *map(self.told, words[2:])))
            else:
                self.row(at, words)
            at += 1

    def rows_to_look_at(self, words):
        if words[2] == "in":
            return list(range(len(self.tables[words[3]])))
        self.looks += 1
        return self.kept(words[3], self.value(words[5], self.names))

    def parts(self, words):
        rest = words[4 if words[2] == "in" else 6:]
        until = rest[rest.index("until") + 1:] if "until" in rest else None
        where = rest[1:rest.index("until") if "until" in rest else None] if rest[:1] == ["where"] else []
        return where, until

    def loop(self, at, words):
        where, _ = self.parts(words)
        ahead, path = self.names, self.path
        for place in self.rows_to_look_at(words):
            self.looks += 1
            self.names = {**ahead, words[1]: place}
            if self.holds(where, self.names):
                self.note(at, True)
                self.path = path + ((self.rows[words[1]], place),)
                try:
                    self.block(at + 1, self.ends[at][1])
                except Ended:
                    pass
                self.path = path
            self.names = ahead

    def row(self, at, words):
        if words[0] in ("get", "need"):
            self.looks += 1
            found = (self.kept(words[3], self.value(words[5], self.names)) + [None])[0]
        else:
            found = self.search(words)
        missing = ("missing", self.told(words[5])) if words[0] == "need" else None
        self.names = {**self.names, words[1]: found}
        self.note(at, found is not None)
        if words[0] == "need" and found is None:
            self.put(missing)
            raise Ended

    def search(self, words):
        where, until = self.parts(words)
        found = None
        for place in self.rows_to_look_at(words):
            self.looks += 1
            names = {**self.names, words[1]: place}
            if until is not None and self.holds(until, names):
                break
            if self.holds(where, names):
                found = place
                if words[0] == "find":
                    break
        return found


def settled(text, runs):
    """What is settled in a program, as far as these runs of it tell."""
    noted = set().union(*(run.noted for run in runs))
    told = []
    for line, row in enumerate(text.split("\n"), start=1):
        word = row.split(" ")[0]
        if word in ("table", "index", "else", "end"):
            continue
        if (line, None) not in noted:
            told.append((line, "unreached"))
        elif word == "each" and (line, True) not in noted:
            told.append((line, "never"))
        elif word not in ("each", "put", "next") and (line, False) not in noted:
            told.append((line, "always"))
        elif word not in ("each", "put", "next") and (line, True) not in noted:
            told.append((line, "never"))
    return told
