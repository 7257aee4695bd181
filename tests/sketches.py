"""Random programs, changes of them, facts and tables, each from a source of random numbers that was begun anew."""

import itertools

from lookuploops.errors import BadFact, BadProgram
from lookuploops.facts import Facts
from lookuploops.programs import Program

SCHEMAS = (
    "table a k\ntable b k v", "table a k n\ntable b k v", "table a k n\ntable b k v", "table a k", "table a k v",
    "table a k\ntable b k\ntable c k",
)


class Sketch:
    def __init__(self, source):
        self.source = source
        self.lines = source.choice(SCHEMAS).split("\n")
        self.columns = {line.split(" ")[1]: line.split(" ")[2:] for line in self.lines}
        self.numbers = source.choice([("0", "1", "2"), ("0", "2", "5"), ("3", "5", "6"), ("-3", "0", "4")])
        self.most = source.choice([1, 2, 2, 3])
        self.indexes = {}
        self.rows = {}
        self.opened = 0

    def text(self):
        for name in self.source.choice(["", "i", "i", "ij"]):
            self.index(name)
        for name in self.source.choice(["", "l", "l", "lm"]):
            self.loop(name)
        for name in "xyzw"[:self.source.choice([1, 2, 2, 3])]:
            self.search(name)
            self.branch()
        for word in self.source.choice(["p", "pp"]):
            self.put(word)
        self.lines += ["end"] * self.opened
        if self.source.random() < 0.3:
            self.put("e")
        return "\n".join(self.lines)

    def term(self, rows, own=None):
        if not rows or self.source.random() < 0.25:
            return self.source.choice(self.numbers)
        row = own if own and self.source.random() < 0.6 else self.source.choice(list(rows))
        return row + "." + self.source.choice(self.columns[rows[row]])

    def condition(self, rows, own=None, plain=False, asking=False):
        drawn = self.source.random()
        turned = "not " if self.source.random() < 0.25 else ""
        row = own or (self.source.choice(list(rows)) if rows else None)
        if not plain and rows and drawn < 0.1:
            return turned + "some " + row
        if not plain and rows and drawn < 0.25:
            others = [other for other in rows if rows[other] == rows[row]]
            return turned + " ".join([row, self.source.choice(["is", "before"]), self.source.choice(others)])
        if asking and self.indexes and drawn < 0.45:
            return turned + self.source.choice(list(self.indexes)) + " has " + self.term(rows)
        sides = [self.term(rows, own), self.term(rows)]
        self.source.shuffle(sides)
        return turned + sides[0] + self.source.choice([" = ", " = ", " < "]) + sides[1]

    def conditions(self, rows, own=None, plain=False, asking=False):
        many = self.source.randint(1, self.most)
        return " and ".join(self.condition(rows, own, plain, asking) for _ in range(many))

    def index(self, name):
        table = self.source.choice(list(self.columns))
        way = self.source.choice(["first", "last", "all"])
        line = f"index {name} of q in {table} by {self.source.choice(self.columns[table])} keep {way}"
        if self.source.random() < 0.3:
            line += " where " + self.conditions({"q": table}, "q", True)
        self.indexes[name] = (table, way)
        self.lines.append(line)

    def loop(self, name):
        table = self.source.choice(list(self.columns))
        line = f"each {name} in {table}"
        self.rows[name] = table
        if self.source.random() < 0.25:
            line += " where " + self.conditions(self.rows, name)
        self.lines.append(line)
        self.opened += 1

    def search(self, name):
        term = self.term(self.rows)
        drawn = self.source.choice(list(self.indexes)) if self.indexes and self.source.random() < 0.5 else None
        table, way = self.indexes[drawn] if drawn else (self.source.choice(list(self.columns)), None)
        self.rows[name] = table
        if way in ("first", "last"):
            self.lines.append(f"{self.source.choice(['get', 'get', 'need'])} {name} from {drawn} at {term}")
            return
        line = self.source.choice(["find ", "last "]) + name + (f" from {drawn} at {term}" if drawn else f" in {table}")
        if self.source.random() < 0.9:
            line += " where " + self.conditions(self.rows, name)
        if self.source.random() < 0.25:
            line += " until " + self.conditions(self.rows, name)
        self.lines.append(line)

    def branch(self):
        if self.opened < 4 and self.source.random() < 0.25:
            self.lines.append("if " + self.conditions(self.rows, asking=True))
            self.opened += 1
            if self.source.random() < 0.4:
                self.put("o")
                if self.source.random() < 0.2:
                    self.lines.append("next")
                self.lines.append("else")

    def put(self, word):
        self.lines.append(" ".join(["put", word] + [self.term(self.rows) for _ in range(self.source.randint(1, 3))]))


def random_program(source):
    return Sketch(source).text()


def changed_line(source, line, terms):
    """A line that differs a little, often one that says something else."""
    words = line.split(" ")
    drawn = source.random()
    if words[0] in ("find", "last") and drawn < 0.3:
        return " ".join([{"find": "last", "last": "find"}[words[0]]] + words[1:])
    if "keep" in words and drawn < 0.4:
        words[words.index("keep") + 1] = source.choice(["first", "last", "all"])
    elif "and" in words and drawn < 0.5:
        words = words[:words.index("and")]
    elif "not" in words and drawn < 0.6:
        words.remove("not")
    else:
        places = [at for at, word in enumerate(words) if word in terms]
        if places:
            words[source.choice(places)] = source.choice(terms)
    return " ".join(words)


def changed_program(source, text):
    """A program over the same tables that differs at one line, or at the order of two."""
    lines = text.split("\n")
    first = sum(line.startswith("table ") for line in lines)
    terms = sorted({word for line in lines for word in line.split(" ") if "." in word} | {"0", "2", "5"})
    for _ in range(30):
        at = source.randrange(first, len(lines))
        other = list(lines)
        drawn = source.random()
        if drawn < 0.1:
            del other[at]
        elif drawn < 0.2 and at + 1 < len(lines):
            other[at], other[at + 1] = other[at + 1], other[at]
        else:
            other[at] = changed_line(source, other[at], terms)
        try:
            if other != lines and len(Program("\n".join(other)).schema.tables) == first:
                return "\n".join(other)
        except BadProgram:
            pass
    return text


def random_facts(source, schema, many):
    places = [f"{table}.{column}" for table in schema.tables for column in schema.columns(table)]
    lines = []
    for _ in range(many):
        word = source.choice(["unique", "unique", "sorted", "single", "filled", "found", "found"])
        if word in ("single", "filled"):
            line = word + " " + source.choice(schema.tables)
        else:
            line = word + " " + source.choice(places)
        if word == "found":
            line += " in " + source.choice(places)
        try:
            Facts(schema, lines + [line])
        except BadFact:
            continue
        if line not in lines and sum(other.startswith("found") for other in lines + [line]) <= 3:
            lines.append(line)
    return Facts(schema, lines)


def random_tables(source, schema, facts=None, many=40):
    """Some tables that keep the facts."""
    for _ in range(many):
        low, high = source.choice([(-1, 2), (0, 3), (0, 6), (2, 8), (-4, 5)])
        tables = {}
        for table in schema.tables:
            rows = [tuple(source.randrange(low, high) for _ in schema.columns(table)) for _ in range(source.randrange(5))]
            tables[table] = sorted(rows) if source.random() < 0.4 else rows
        if facts is None or facts.broken(tables) is None:
            yield tables


def tables_with(schema, values, total):
    """All tables with so many rows in all."""
    rows = {table: list(itertools.product(values, repeat=len(schema.columns(table)))) for table in schema.tables}
    for tables in itertools.combinations_with_replacement(schema.tables, total):
        choices = [itertools.product(rows[table], repeat=tables.count(table)) for table in schema.tables]
        for chosen in itertools.product(*choices):
            yield {table: list(own) for table, own in zip(schema.tables, chosen)}
