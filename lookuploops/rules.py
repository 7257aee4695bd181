"""Facts with what they imply, sorted by the tables that they speak of."""

from lookuploops.factlines import column_links, places_of
from lookuploops.implied import is_constant, lone_tables
from lookuploops.links import reached


class Rules:
    """What the tables of a question keep.

    `single` and `filled` are dicts of True for tables. `unique`, `rising` and `constant` are dicts from tables to
    places of columns: in those of the last one all rows have the same value. `debts` is the dict from tables to
    tuples (at, table, at): each value in the one column is found in the other.
    """

    def __init__(self, schema, facts):
        self.tables = schema.tables
        self.widths = {table: len(schema.columns(table)) for table in schema.tables}
        self.single = lone_tables(facts)
        self.filled = {table: True for table, _ in places_of(facts, "filled")}
        self.unique = places_at(schema, places_of(facts, "unique"))
        self.rising = places_at(schema, places_of(facts, "sorted"))
        columns = [(table, column) for table in schema.tables for column in schema.columns(table)]
        self.constant = places_at(schema, [place for place in columns if is_constant(facts, self.single, place)])
        self.debts = {table: [] for table in schema.tables}
        links = column_links(facts)
        for place in columns:
            for goal in reached(place, links):
                if goal != place:
                    self.debts[place[0]].append((at_of(schema, place), goal[0], at_of(schema, goal)))


def places_at(schema, places):
    """Return the dict from the tables to the places of those of their columns that are listed."""
    told = {table: [] for table in schema.tables}
    for place in places:
        told[place[0]].append(at_of(schema, place))
    return told


def at_of(schema, place):
    """Return the place of a column among those of its table."""
    table, column = place
    return schema.columns(table).index(column)
