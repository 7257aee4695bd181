"""Whether facts imply a fact, for tables of any size.

Call a table lone if the facts allow it one row at most, and a column constant if they allow it one value at
most. A lone table has constant columns; a column that must be found in a constant one is constant; and a table
with a constant column that is unique is lone. Nothing else limits the tables, since no chain of `found` lines
comes back to its table: let each table that is not lone have many rows, more of them where chains lead to, and
let its columns that are not constant count up along them. Such tables keep the facts, and with one value
repeated, falling or not found, or with tables left empty, they break each fact that is denied below.
"""

from lookuploops.factlines import column_links, places_of, table_links
from lookuploops.links import reached


def follows(facts, fact):
    """Tell whether all tables that keep the facts keep this fact as well."""
    word, place, goal = fact
    table = place[0]
    if word == "filled":
        return is_filled(facts, table)
    if word == "found":
        return is_found(facts, place, goal)
    lone = lone_tables(facts)
    if word == "single":
        return table in lone
    if word == "unique":
        return fact in facts or table in lone
    return fact in facts or is_constant(facts, lone, place)


def is_filled(facts, table):
    """Tell whether a table surely has a row: it is filled, or a table with a row must be found in it."""
    links = table_links(facts)
    return any(table in reached(filled, links) for filled, _ in places_of(facts, "filled"))


def is_found(facts, place, goal):
    """Tell whether each value of a column is surely a value of another one."""
    links = column_links(facts)
    return goal in reached(place, links + turned_links(facts, place[0]))


def turned_links(facts, table):
    """Return the links of columns that hold the other way round, too, if this table has a row.

    A column that must be found in a constant one, and has a row, has the only value of that one.
    """
    lone = lone_tables(facts)
    there = reached(table, table_links(facts))
    return [
        (goal, place)
        for place, goal in column_links(facts)
        if is_constant(facts, lone, goal) and (place[0] in there or is_filled(facts, place[0]))
    ]


def lone_tables(facts):
    """Return a dict of True for the tables that surely have one row at most."""
    lone = {table: True for table, _ in places_of(facts, "single")}
    unique = places_of(facts, "unique")
    for _ in unique:
        # A table that one round makes lone can make columns constant for the next round.
        for place in unique:
            if is_constant(facts, lone, place):
                lone[place[0]] = True
    return lone


def is_constant(facts, lone, place):
    """Tell whether a column surely has one value at most, as far as the lone tables are known."""
    return any(table in lone for table, _ in reached(place, column_links(facts)))
