"""Worlds: tables of which some rows are known, as far as something was chosen about them.

The rows of a world are numbered from 1. Each has a node for each column, and one for its place in its table: only
the order of the places of rows of one table counts. What is not known of a world is open: there may be further
rows, unless a ban forbids them.
"""

from lookuploops.net import FAILS, HOLDS, OPEN, Net
from lookuploops.searches import NO_ROW, OWN, WRITTEN

NODES = 4
PLACE = 3


class World:
    """What is known of the tables.

    `rows` is the dict from the tables to the lists of their known rows, `many` the number of these. `places` is
    the dict from references to their rows, or 0 for none. `bans` is the dict from the tables to tuples
    (conditions, low, high): no row behind the row `low`, if there is one, and ahead of the row `high`, if there
    is one, fulfils the conditions. `owed` are tuples (node, table, at): the value is to be found in a column;
    with None as the node a row is to be found. `unended` are the references of searches that may come to other rows
    as yet, since it is not known where they end. `decided` is the dict from tuples of conditions to whether all
    of them hold.
    """

    def __init__(self, rules):
        self.rules = rules
        self.net = Net({0: {}}, [])
        self.rows = {table: [] for table in rules.tables}
        self.bans = {table: [] for table in rules.tables}
        self.places = {NO_ROW: 0}
        self.decided = {}
        self.owed = [(None, table, 0) for table in rules.filled]
        self.unended = []
        self.many = 0

    def twin(self):
        """Return a world of its own of which the same is known."""
        other = World(self.rules)
        other.net = self.net.twin()
        other.rows = dict(self.rows)
        other.bans = dict(self.bans)
        other.places = dict(self.places)
        other.decided = dict(self.decided)
        other.owed = self.owed
        other.unended = self.unended
        other.many = self.many
        return other

    def add_row(self, table):
        """Add a row to a table and return it, or 0 if there cannot be one more."""
        others = self.rows[table]
        if others and table in self.rules.single:
            return 0
        self.many += 1
        row = self.many
        for node in range(row * NODES, row * NODES + NODES):
            self.net.bounds[node] = {}
        self.rows[table] = others + [row]
        for other in others:
            self.keep_rules(table, row, other)
        for at, goal, found in self.rules.debts[table]:
            self.owed = self.owed + [(row * NODES + at, goal, found)]
        for conditions, low, high in self.bans[table]:
            self.refuse(conditions, row, low, high)
        return row

    def keep_rules(self, table, row, other):
        """Have two rows of a table keep the rules."""
        clauses = self.net.clauses
        for at in self.rules.unique[table]:
            clauses.append(apart(row * NODES + at, other * NODES + at))
        for at in self.rules.rising[table]:
            clauses.append(in_order(row, other, at))
            clauses.append(in_order(other, row, at))
        for at in self.rules.constant[table]:
            clauses.append([equal(row * NODES + at, other * NODES + at)])

    def ban(self, table, conditions, low, high):
        """Forbid conditions for the rows between two rows; 0 stands for no such row."""
        for row in self.rows[table]:
            if row != low and row != high:
                self.refuse(conditions, row, low, high)
        self.bans[table] = self.bans[table] + [(conditions, low, high)]

    def refuse(self, conditions, row=0, low=0, high=0):
        """Forbid that conditions hold together, for this row, unless it is not between two rows."""
        clause = []
        for condition in conditions:
            clause.extend(self.ways(condition, row, True))
        if low:
            clause.append(ahead(row, low))
        if high:
            clause.append(ahead(high, row))
        self.net.clauses.append(clause)

    def demand(self, conditions, row=0):
        """Demand that conditions hold, for this row."""
        for condition in conditions:
            self.net.clauses.append(self.ways(condition, row, False))

    def verdict(self, condition, row=0):
        """Tell whether a condition surely holds, surely fails, or is open, for this row."""
        verdict = FAILS
        for literal in self.ways(condition, row, False):
            judged = self.net.judge(literal)
            if judged == HOLDS:
                return HOLDS
            if judged == OPEN:
                verdict = OPEN
        return verdict

    def ways(self, condition, row, turned):
        """Return the literals of which one holds if the condition does, or turned if it does not."""
        negated, word, left, right = condition
        turned = turned != negated
        if word == "=" or word == "<":
            one = self.node(left, row)
            other = self.node(right, row)
            if one is not None and other is not None:
                return compared(word, one, other, turned)
            return [()] if turned else []
        one = self.row_of(left, row)
        other = self.row_of(right, row)
        if word == "before" and one and other and one != other:
            return [ahead(other, one)] if turned else [ahead(one, other)]
        so = one != 0 and (word == "some" or word == "is" and one == other)
        return [()] if so != turned else []

    def row_of(self, reference, row):
        """Return the row of a reference, or 0 if it is none."""
        return row if reference == OWN else self.places[reference]

    def node(self, term, row):
        """Return a term as a node and what is to be added to it, or None if its row is none."""
        reference, at = term
        if reference == WRITTEN:
            return 0, at
        own = self.row_of(reference, row)
        return None if own == 0 else (own * NODES + at, 0)

    def settle(self):
        """Claim what follows; return whether it seems that integers and further rows can keep all."""
        return self.net.settle() and self.can_pay_all()

    def can_pay_all(self):
        """Tell whether each value that is owed can be found as yet; forget those that surely are."""
        owed = []
        for debt in list(self.owed):
            paid = self.paid(debt)
            if paid == FAILS and not self.can_pay_anew(debt):
                return False
            if paid != HOLDS:
                owed.append(debt)
        self.owed = owed
        return True

    def paid(self, debt):
        """Tell whether what is owed surely is among the known rows, surely is not, or is open."""
        node, table, at = debt
        verdict = FAILS
        for row in self.rows[table]:
            judged = HOLDS if node is None else self.net.judge(equal(node, row * NODES + at))
            if judged == HOLDS:
                return HOLDS
            if judged == OPEN:
                verdict = OPEN
        return verdict

    def can_pay_anew(self, debt):
        """Tell whether it seems that a further row can be what is owed, with all that this row owes itself."""
        table = debt[1]
        if not self.bans[table] and not self.rules.debts[table] and not self.rows[table]:
            return True
        child = self.paid_anew(debt)
        if child is None or not child.net.settle():
            return False
        for own in child.owed[len(self.owed):]:
            if child.paid(own) == FAILS and not child.can_pay_anew(own):
                return False
        return True

    def paid_anew(self, debt):
        """Return the world in which a further row is what is owed, or None."""
        node, table, at = debt
        child = self.twin()
        row = child.add_row(table)
        if row == 0:
            return None
        if node is not None:
            child.net.clauses.append([equal(node, row * NODES + at)])
        return child

    def payments(self, debt):
        """Return the worlds in which a row, a known or a further one, is what is owed."""
        node, table, at = debt
        children = []
        for row in self.rows[table]:
            child = self.twin()
            child.net.clauses.append([equal(node, row * NODES + at)])
            children.append(child)
        children.append(self.paid_anew(debt))
        return [child for child in children if child is not None and child.settle()]

    def unpaid(self, values):
        """Return the first debt that is not paid where the nodes have these values, or None."""
        for debt in self.owed:
            node, table, at = debt
            if node is None:
                if not self.rows[table]:
                    return debt
            elif values[node] not in [values[row * NODES + at] for row in self.rows[table]]:
                return debt
        return None

    def shown(self, values):
        """Return the tables of the known rows where the nodes have these values."""
        tables = {}
        for table in self.rules.tables:
            rows = sorted([(values[row * NODES + PLACE], row) for row in self.rows[table]])
            tables[table] = [self.cells(table, row, values) for _, row in rows]
        return tables

    def cells(self, table, row, values):
        """Return the tuple of the values in a row."""
        return tuple([values[row * NODES + at] for at in range(self.rules.widths[table])])


def equal(x, y):
    """Return the literal that two nodes have the same value."""
    return (x, y, 0), (y, x, 0)


def apart(x, y):
    """Return the clause that two nodes have different values."""
    return [((x, y, -1),), ((y, x, -1),)]


def ahead(row, other):
    """Return the literal that a row stands ahead of another one."""
    return ((row * NODES + PLACE, other * NODES + PLACE, -1),)


def in_order(row, other, at):
    """Return the clause that a row, unless it stands behind another one, has no greater value."""
    return [ahead(other, row), ((row * NODES + at, other * NODES + at, 0),)]


def compared(word, one, other, turned):
    """Return the literals of which one holds if two nodes, with what is added to them, are equal or in order."""
    x, more = one
    y, most = other
    gap = most - more
    if word == "<":
        return [((y, x, -gap),)] if turned else [((x, y, gap - 1),)]
    if turned:
        return [((x, y, gap - 1),), ((y, x, -gap - 1),)]
    return [((x, y, gap), (y, x, -gap))]
