"""Further rows: those that facts ask for, beside the rows that runs come to, as few as possible.

How many further rows there are is chosen table by table, as a list of numbers in the order of `order`; then it is
left to the clauses which row pays which debt. A table that is owed something stands in the order behind the tables
of the rows that owe it, so its number is chosen when theirs are known.
"""

from lookuploops.net import FAILS
from lookuploops.worlds import NODES, equal


class Further:
    """Numbers of further rows, of which the one at `latest` was the last that was raised."""

    def __init__(self, order, numbers, latest):
        self.order = order
        self.numbers = numbers
        self.latest = latest

    def raised(self, world):
        """Return those with one row more, in the same table or in one behind it, that all may be needed."""
        told = []
        for place in range(self.latest, len(self.order)):
            if self.numbers[place] < self.most(world, place):
                numbers = list(self.numbers)
                numbers[place] = numbers[place] + 1
                told.append(Further(self.order, numbers, place))
        return told

    def is_too_few(self, world):
        """Tell whether rows that owe a value of their own each surely outnumber those that could pay."""
        totals = {table: len(world.rows[table]) + number for table, number in zip(self.order, self.numbers)}
        for other in self.order:
            for table in self.order:
                if totals[other] > totals[table] and owes_all(world.rules, other, table):
                    return True
        return False

    def most(self, world, place):
        """Return how many further rows of a table can be needed: one for each debt."""
        table = self.order[place]
        many = len([debt for debt in world.owed if debt[1] == table])
        for other, number in zip(self.order, self.numbers):
            many = many + number * len([debt for debt in world.rules.debts[other] if debt[1] == table])
        return many


def least_further(world):
    """Return the numbers of further rows that a world needs at least."""
    order = paying_order(world.rules)
    numbers = []
    for table in order:
        needed = most_distinct(world, table)
        for other, number in zip(order, numbers):
            if owes_all(world.rules, other, table):
                needed = max(needed, len(world.rows[other]) + number)
        numbers.append(max(0, needed - len(world.rows[table])))
    return Further(order, numbers, 0)


def paying_order(rules):
    """Return the tables, those that owe something ahead of those that are owed it."""
    order = []
    while len(order) < len(rules.tables):
        for table in rules.tables:
            if table not in order and not is_owed(rules, table, order):
                order.append(table)
    return order


def is_owed(rules, table, order):
    """Tell whether something is owed a table by one that is not in order yet."""
    for other in rules.tables:
        if other not in order and [debt for debt in rules.debts[other] if debt[1] == table]:
            return True
    return False


def owes_all(rules, other, table):
    """Tell whether each row of one table owes a value of its own to another one."""
    return any(goal == table and at in rules.unique[other] for at, goal, _ in rules.debts[other])


def most_distinct(world, table):
    """Return how many rows a table needs at least for what is owed: values that surely differ need a row each."""
    groups = {}
    for node, goal, at in world.owed:
        if goal == table:
            groups.setdefault(at, []).append(node)
    needed = 0
    for nodes in groups.values():
        apart = []
        for node in nodes:
            if all(differ(world, node, other) for other in apart):
                apart.append(node)
        needed = max(needed, len(apart))
    return needed


def differ(world, node, other):
    """Tell whether two nodes, or None for a debt of any row, surely have different values."""
    if node is None or other is None:
        return False
    if world.net.judge(equal(node, other)) == FAILS:
        return True
    row = node // NODES
    at = node - row * NODES
    behind = other // NODES
    if row == behind or other - behind * NODES != at:
        return False
    return any(row in rows and behind in rows and at in world.rules.unique[table] for table, rows in world.rows.items())


def with_further(world, further):
    """Return the world with so many further rows in which all debts are paid, or None."""
    if further.is_too_few(world):
        return None
    child = world.twin()
    for table, number in zip(further.order, further.numbers):
        for _ in range(number):
            if child.add_row(table) == 0:
                return None
    counts = {table: 0 for table in child.rows}
    for node, table, at in child.owed:
        counts[table] = counts[table] + 1
        # Which further row is which is free: so each debt is paid by one that pays an earlier one, or by the next.
        rows = child.rows[table][:len(world.rows[table]) + counts[table]]
        if not rows:
            return None
        if node is not None:
            child.net.clauses.append([equal(node, row * NODES + at) for row in rows])
    return child if child.net.settle() else None
