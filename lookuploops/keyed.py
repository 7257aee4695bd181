"""Searches of a table by a key condition, and how such a line is written with an index."""

from lookuploops.parts import Parts
from lookuploops.plans import chain_to, statement_at
from lookuploops.statements import SEARCHES
from lookuploops.words import LETTERS, is_name

OF_INDEXES = ("=", "<")


def search_at(program, line):
    """Return the search of a line, if it has a `where` and no `until`, or None."""
    statements = program.source().statements
    chain = chain_to(statements, line)
    if not chain:
        return None
    statement = statement_at(statements, chain)
    if statement.word not in SEARCHES or not statement.where or statement.until is not None:
        return None
    return statement


def key_place(program, line):
    """Return the place, from 0, of the key condition of a line, or None if it has none."""
    statement = search_at(program, line)
    if statement is None or statement.index is not None:
        return None
    for place, condition in enumerate(statement.where):
        if own_side(condition, statement.row) is not None:
            return place
    return None


def own_side(condition, row):
    """Return the side, 0 or 1, of a condition that is the column of a row, if it is a key condition, or None."""
    negated, word, left, right = condition
    if negated or word != "=":
        return None
    if reads(left, row) and not reads(right, row):
        return 0
    if reads(right, row) and not reads(left, row):
        return 1
    return None


def reads(term, row):
    """Tell whether a term is a column of the row of this name."""
    return not isinstance(term, int) and term[0] == row


def fits_index(condition, row):
    """Tell whether a condition may stand in the `where` of an index, for the row of this name."""
    _, word, left, right = condition
    if word not in OF_INDEXES:
        return False
    return all(isinstance(term, int) or term[0] == row for term in (left, right))


def all_fit_index(program, line, place):
    """Tell whether all conditions of a line but the one at a place may stand in the `where` of an index."""
    statement = search_at(program, line)
    others = statement.where[:place] + statement.where[place + 1:]
    return all(fits_index(condition, statement.row) for condition in others)


def rows_text(program, line, place):
    """Return the text in which a line goes by an index that keeps all, for the key condition at a place."""
    statement = search_at(program, line)
    column, term, others = key_parts(program, line, place)
    name = new_name(program.source())
    index = ["index", name, "of", statement.row, "in", statement.table, "by", column, "keep", "all"]
    changed = Parts(program[line])
    changed.head = [statement.word, statement.row, "from", name, "at", term]
    changed.where = others
    return exchanged(program, line, " ".join(index), changed.written())


def kept_text(program, line, place, keep):
    """Return the text in which a line is a `get` from an index that keeps first, or last."""
    statement = search_at(program, line)
    column, term, others = key_parts(program, line, place)
    name = new_name(program.source())
    index = Parts(program[line])
    index.head = ["index", name, "of", statement.row, "in", statement.table, "by", column, "keep", keep]
    index.where = others
    changed = ["get", statement.row, "from", name, "at", term]
    return exchanged(program, line, index.written(), " ".join(changed))


def key_parts(program, line, place):
    """Return the column and the term of the key condition at a place, and the other conditions, as words."""
    statement = search_at(program, line)
    conditions = Parts(program[line]).where
    words = conditions[place]
    sides = [words[0], words[2]]
    side = own_side(statement.where[place], statement.row)
    _, _, column = sides[side].partition(".")
    return column, sides[1 - side], conditions[:place] + conditions[place + 1:]


def exchanged(program, line, index, changed):
    """Return the text of a program with one more index line behind the others, and one line changed."""
    source = program.source()
    lines = list(program)
    at = len(source.columns_of) + len(source.indexes)
    return "\n".join(lines[:at] + [index] + lines[at:line - 1] + [changed] + lines[line:])


def new_name(source):
    """Return a name that no table, index or row has."""
    used = list(source.columns_of) + list(source.indexes) + list(source.row_tables) + list(source.index_rows)
    names = list(LETTERS) + [one + other for one in LETTERS for other in LETTERS]
    return [name for name in names if is_name(name) and name not in used][0]
