"""Reading the text of a program, line by line. The first wrong line raises BadProgram."""

from lookuploops.conditions import Scope, read_conditions, read_term
from lookuploops.errors import BadProgram
from lookuploops.parts import Parts
from lookuploops.schema import MOST_TABLES, is_table_line
from lookuploops.statements import GETS, SEARCHES, Index, Statement
from lookuploops.words import is_name, lines_of, split_at, words_of

MOST_LINES = 40
MOST_INDEXES = 4
MOST_OPEN = 5
MOST_LOOPS = 3
MOST_TERMS = 3
WAYS = ("first", "last", "all")


def read_source(text):
    """Return the Source of a text; raise BadProgram with its first wrong line."""
    source = Source()
    lines = lines_of(text)
    if not lines:
        raise BadProgram(1)
    for number, line in enumerate(lines, start=1):
        if number > MOST_LINES or not source.takes(number, line):
            raise BadProgram(number)
    if source.opened:
        raise BadProgram(len(lines) + 1)
    return source


class Source:
    """What the lines of a program say, as far as they were read.

    `columns_of` and `indexes` are dicts from the names, `statements` is the list of those outside of all blocks.
    `row_tables` is the dict from the names of rows that statements set to their tables.
    """

    def __init__(self):
        self.columns_of = {}
        self.indexes = {}
        self.statements = []
        self.row_tables = {}
        self.loop_rows = {}
        self.index_rows = {}
        self.opened = []
        self.begun = False

    def takes(self, number, line):
        """Take in the next line; return whether it is right."""
        words = words_of(line)
        if words[0] == "table":
            return self.takes_table(words)
        if not self.columns_of:
            return False
        if words[0] == "index":
            return self.takes_index(Parts(line))
        self.begun = True
        if words[0] in ("else", "end"):
            return len(words) == 1 and self.closes(words[0])
        return self.takes_statement(Statement(number, words[0]), line)

    def takes_table(self, words):
        if self.begun or self.indexes or len(self.columns_of) == MOST_TABLES:
            return False
        if not is_table_line(words) or words[1] in self.columns_of:
            return False
        self.columns_of[words[1]] = tuple(words[2:])
        return True

    def takes_index(self, parts):
        head = parts.head
        if self.begun or len(self.indexes) == MOST_INDEXES or parts.until is not None or len(head) != 10:
            return False
        _, name, _, row, _, table, _, column, _, way = head
        if head[2::2] != ["of", "in", "by", "keep"] or way not in WAYS or not self.is_free(name):
            return False
        if name in self.index_rows or not self.is_free(row) or row == name:
            return False
        if table not in self.columns_of or column not in self.columns_of[table]:
            return False
        where = self.conditions(Scope(self.columns_of, {row: table}, {}, plain=True), parts.where)
        if where is None:
            return False
        self.indexes[name] = Index(name, row, table, self.columns_of[table].index(column), way, where)
        self.index_rows[row] = True
        return True

    def is_free(self, name):
        """Tell whether this is a name, and that of no table and no index."""
        return is_name(name) and name not in self.columns_of and name not in self.indexes

    def conditions(self, scope, lists):
        """Return the conditions of a part of a line, which may be lacking, or None if they are wrong."""
        if lists is None:
            return []
        return read_conditions(scope, lists)

    def scope(self):
        """Return the scope of an `if`, a `put` and a term behind `at`: the rows that the lines above set."""
        return Scope(self.columns_of, self.row_tables, self.indexes)

    def takes_statement(self, statement, line):
        word = statement.word
        words = words_of(line)
        if word == "if":
            right = self.reads_if(statement, words)
        elif word == "put":
            right = self.reads_put(statement, words)
        elif word == "next":
            right = len(words) == 1
        elif word == "each" or word in SEARCHES or word in GETS:
            right = self.reads_row(statement, Parts(line))
        else:
            right = False
        if right and word in ("each", "if"):
            right = self.may_open(word)
        if right:
            self.place(statement)
        return right

    def reads_if(self, statement, words):
        conditions = read_conditions(self.scope(), split_at(words[1:], "and"))
        if conditions is None:
            return False
        statement.where = conditions
        return True

    def reads_put(self, statement, words):
        if len(words) < 2 or len(words) > 2 + MOST_TERMS or not is_name(words[1]):
            return False
        terms = [read_term(self.scope(), word) for word in words[2:]]
        if None in terms:
            return False
        statement.label = words[1]
        statement.terms = terms
        return True

    def reads_row(self, statement, parts):
        """Read a line that sets a row: a loop, a search, a `get` or a `need`."""
        if not self.reads_head(statement, parts.head) or not self.may_set(statement):
            return False
        if statement.word in GETS and (parts.where is not None or parts.until is not None):
            return False
        if statement.word == "each" and parts.until is not None:
            return False
        rows = dict(self.row_tables)
        rows[statement.row] = statement.table
        scope = Scope(self.columns_of, rows, {})
        where = self.conditions(scope, parts.where)
        until = self.conditions(scope, parts.until)
        if where is None or until is None:
            return False
        statement.where = where
        if parts.until is not None:
            statement.until = until
        self.row_tables[statement.row] = statement.table
        if statement.word == "each":
            self.loop_rows[statement.row] = True
        return True

    def reads_head(self, statement, head):
        """Read what stands ahead of the conditions: the row, and the table or the index with its term."""
        if len(head) == 4 and head[2] == "in" and statement.word not in GETS:
            statement.row = head[1]
            statement.table = head[3]
            return head[3] in self.columns_of
        if len(head) != 6 or head[2] != "from" or head[4] != "at" or head[3] not in self.indexes:
            return False
        statement.row = head[1]
        statement.index = self.indexes[head[3]]
        statement.table = statement.index.table
        statement.term = read_term(self.scope(), head[5])
        keeps_all = statement.index.way == "all"
        return statement.term is not None and keeps_all != (statement.word in GETS)

    def may_set(self, statement):
        """Tell whether the line may set its row: a loop only a new one, other lines one of the same table."""
        row = statement.row
        if not self.is_free(row) or row in self.loop_rows:
            return False
        if row not in self.row_tables:
            return True
        return statement.word != "each" and self.row_tables[row] == statement.table

    def may_open(self, word):
        loops = [block for block, _ in self.opened if block.word == "each"]
        return len(self.opened) < MOST_OPEN and (word != "each" or len(loops) < MOST_LOOPS)

    def place(self, statement):
        """Put a statement where it stands, and open it if it holds lines."""
        if not self.opened:
            self.statements.append(statement)
        else:
            block, side = self.opened[-1]
            if side == "other":
                block.other.append(statement)
            else:
                block.inner.append(statement)
        if statement.word in ("each", "if"):
            self.opened.append((statement, "inner"))

    def closes(self, word):
        """Take in a line `else` or `end`; return whether it belongs to a block."""
        if not self.opened:
            return False
        block, side = self.opened.pop()
        if word == "end":
            return True
        self.opened.append((block, "other"))
        return block.word == "if" and side == "inner"
