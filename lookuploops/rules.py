"""Facts, sorted by the tables that they speak of."""


class Rules:
    """The facts that the tables of a question keep.

    `single` and `filled` are dicts of True for tables; `unique` and `rising` dicts from tables to places of
    columns; `debts` from tables to tuples (at, table, at): each value in the one column is found in the other.
    """

    def __init__(self, schema, facts):
        self.tables = schema.tables
        self.widths = {table: len(schema.columns(table)) for table in schema.tables}
        self.single = {}
        self.filled = {}
        self.unique = {table: [] for table in schema.tables}
        self.rising = {table: [] for table in schema.tables}
        self.debts = {table: [] for table in schema.tables}
        for word, place, goal in facts:
            self.take(schema, word, place, goal)

    def take(self, schema, word, place, goal):
        table, column = place
        if word == "single":
            self.single[table] = True
        elif word == "filled":
            self.filled[table] = True
        else:
            at = schema.columns(table).index(column)
            if word == "unique":
                self.unique[table].append(at)
            elif word == "sorted":
                self.rising[table].append(at)
            else:
                other, found = goal
                self.debts[table].append((at, other, schema.columns(other).index(found)))
