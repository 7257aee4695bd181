"""Plans: what of a program counts for one path, or for reaching one line, as nested lists of steps.

Steps are tuples:
- ("set", row, search) and ("need", row, search, term, heard)
- ("test", conditions, steps if they hold, steps if not)
- ("turn", row, depth, conditions, steps): one turn, with the row of the path at this depth, from 1
- ("put", label, terms), ("next",) and ("won",), where the line that was to be reached is done

A search is (way, table, where, until). Conditions are (negated, word, left, right), terms integers or (row, at);
OWN_NAME is the row that a search looks at, and `has` has a search as its left side.
"""

from lookuploops.pruning import pruned
from lookuploops.searches import OWN_NAME
from lookuploops.statements import SEARCHES


def shapes_of(statements):
    """Return the list of the shapes of the paths of statements: the tables of the loops, () ahead of all."""
    shapes = [()]
    for statement in statements:
        inner = shapes_of(statement.inner)
        if statement.word == "each":
            inner = [(statement.table,) + shape for shape in inner]
        for shape in inner + shapes_of(statement.other):
            if shape not in shapes:
                shapes.append(shape)
    return shapes


def path_plan(source, shape):
    """Return the steps of a program that count for what is put at paths of this shape."""
    return pruned(Planner(source, shape).steps(source.statements, 0))


def chain_to(statements, number):
    """Return the chain that leads to the statement of a line, or [].

    It is a list of tuples (at, side): the place of a statement among those that it stands with, and the side of
    it, "inner" or "other", in which the next one lies.
    """
    for at, statement in enumerate(statements):
        if statement.number == number:
            return [(at, None)]
        for side, lines in (("inner", statement.inner), ("other", statement.other)):
            chain = chain_to(lines, number)
            if chain:
                return [(at, side)] + chain
    return []


def statement_at(statements, chain):
    """Return the statement at the end of a chain."""
    at, side = chain[0]
    if len(chain) == 1:
        return statements[at]
    return statement_at(statements[at].inner if side == "inner" else statements[at].other, chain[1:])


def loops_along(statements, chain):
    """Return the tables of the loops in which the statement at the end of a chain lies."""
    at, side = chain[0]
    if len(chain) == 1:
        return ()
    lines = statements[at].inner if side == "inner" else statements[at].other
    own = (statements[at].table,) if statements[at].word == "each" else ()
    return own + loops_along(lines, chain[1:])


def line_plan(source, chain, holds):
    """Return the steps that lead to the statement at the end of a chain.

    `holds` is the outcome that it is to have: True or False for the conditions of an `if`, for whether a row is
    found and whether a loop has a turn; None for any.
    """
    return pruned(Planner(source, None).leading(source.statements, chain, holds, 1))


class Planner:
    """Turns statements into steps, for paths of a shape, or with None for no loop at all."""

    def __init__(self, source, shape):
        self.indexes = source.indexes
        self.shape = shape

    def steps(self, statements, depth):
        """Return the steps of statements that lie in so many loops of the path."""
        steps = []
        for statement in statements:
            if statement.word != "each":
                steps.extend(self.plain_steps(statement, depth))
            elif self.shape is not None and self.shape[depth:depth + 1] == (statement.table,):
                steps.append(self.turn(statement, depth + 1, self.steps(statement.inner, depth + 1)))
        return steps

    def plain_steps(self, statement, depth):
        """Return the steps of a statement that is no loop."""
        heard = self.shape is not None and len(self.shape) == depth
        word = statement.word
        if word == "if":
            inner = self.steps(statement.inner, depth)
            return [("test", self.conditions(statement), inner, self.steps(statement.other, depth))]
        if word == "put":
            terms = [named(term) for term in statement.terms]
            return [("put", statement.label, terms)] if heard else []
        if word == "next":
            return [("next",)]
        if word == "need":
            return [("need", statement.row, search_of(statement), named(statement.term), heard)]
        return [("set", statement.row, search_of(statement))]

    def turn(self, statement, depth, steps):
        conditions = members(statement.index, statement.term, statement.row)
        conditions = conditions + named_all(statement.where)
        return "turn", statement.row, depth, conditions, steps

    def conditions(self, statement):
        """Return the conditions of an `if`."""
        conditions = []
        for negated, word, left, right in statement.where:
            if word == "has":
                index = self.indexes[left]
                search = (way_of(index), index.table, members(index, right, OWN_NAME), None)
                conditions.append((negated, word, search, None))
            else:
                conditions.append(named_sides((negated, word, left, right)))
        return conditions

    def leading(self, statements, chain, holds, depth):
        """Return the steps up to the first statement of a chain and on to its last one."""
        at, side = chain[0]
        statement = statements[at]
        steps = self.steps(statements[:at], 0)
        if len(chain) == 1:
            return steps + self.goal(statement, holds, depth)
        if statement.word == "each":
            inner = self.leading(statement.inner, chain[1:], holds, depth + 1)
            return steps + [self.turn(statement, depth, inner)]
        if side == "inner":
            inner = self.leading(statement.inner, chain[1:], holds, depth)
            return steps + [("test", self.conditions(statement), inner, [])]
        other = self.leading(statement.other, chain[1:], holds, depth)
        return steps + [("test", self.conditions(statement), [], other)]

    def goal(self, statement, holds, depth):
        """Return the steps that end with ("won",) where a statement is done with this outcome."""
        won = [("won",)]
        if holds is None:
            return won
        if statement.word == "each":
            return [self.turn(statement, depth, won)]
        if statement.word == "if":
            conditions = self.conditions(statement)
            return [("test", conditions, won, [])] if holds else [("test", conditions, [], won)]
        found = [(not holds, "some", statement.row, None)]
        return [("set", statement.row, search_of(statement)), ("test", found, won, [])]


def way_of(index):
    """Return whether an index comes to the first or to the last of the rows that it could keep."""
    return "last" if index.way == "last" else "first"


def search_of(statement):
    """Return the search of a search or a look-up."""
    rows = members(statement.index, statement.term, OWN_NAME)
    where = rows + named_all(statement.where, statement.row)
    until = None
    if statement.until is not None:
        until = rows + named_all(statement.until, statement.row)
    if statement.word in SEARCHES:
        way = "last" if statement.word == "last" else "first"
    else:
        way = way_of(statement.index)
    return way, statement.table, where, until


def members(index, term, row):
    """Return the conditions by which an index has a row, with this name, for a term; none without an index."""
    if index is None:
        return []
    conditions = named_all(index.where, index.row, row)
    return conditions + [(False, "=", (row, index.at), named(term))]


def named_all(conditions, own=None, name=OWN_NAME):
    return [named_sides(condition, own, name) for condition in conditions]


def named_sides(condition, own=None, name=OWN_NAME):
    """Return a condition with plain terms; the row `own` gets another name in it."""
    negated, word, left, right = condition
    if word == "=" or word == "<":
        return negated, word, named(left, own, name), named(right, own, name)
    left = name if left == own else left
    right = name if right is not None and right == own else right
    return negated, word, left, right


def named(term, own=None, name=OWN_NAME):
    """Return a term without its table; the row `own` gets another name in it."""
    if isinstance(term, int):
        return term
    row, _, at = term
    return name if row == own else row, at
