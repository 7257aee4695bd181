"""Lines of facts, read to tuples (word, place, goal).

A place and a goal are tuples (table, column). Facts of whole tables have None as the column of their place;
only `found` has a goal, the others have None.
"""

from lookuploops.errors import BadFact
from lookuploops.links import reached
from lookuploops.words import words_of

OF_TABLES = ("single", "filled")
OF_COLUMNS = ("unique", "sorted")


def read_facts(schema, lines):
    """Return the dict from the lines to their facts; a line that stands twice keeps its first place."""
    facts = {}
    links = []
    for index, line in enumerate(lines):
        fact = read_fact(schema, line)
        if fact is None or leads_back(fact, links):
            raise BadFact(index)
        facts[line] = fact
        links.extend(table_links([fact]))
    return facts


def read_fact(schema, line):
    """Return the fact of a line, or None if the line is none over the tables of the schema."""
    words = words_of(line)
    place = None
    goal = None
    if len(words) == 2 and words[0] in OF_TABLES:
        place = read_table(schema, words[1])
    elif len(words) == 2 and words[0] in OF_COLUMNS:
        place = read_column(schema, words[1])
    elif len(words) == 4 and words[0] == "found" and words[2] == "in":
        place = read_column(schema, words[1])
        goal = read_column(schema, words[3])
        if goal is None:
            return None
    if place is None:
        return None
    return words[0], place, goal


def read_table(schema, word):
    """Return the place of a whole table, or None if there is no such table."""
    if word in schema.tables:
        return word, None
    return None


def read_column(schema, word):
    """Return the place of a column, or None if there is no such table or column."""
    table, _, column = word.partition(".")
    if table in schema.tables and column in schema.columns(table):
        return table, column
    return None


def leads_back(fact, links):
    """Tell whether a fact, together with links between tables, leads from a table back to it."""
    return any(start in reached(goal, links) for start, goal in table_links([fact]))


def column_links(facts):
    """Return the pairs of columns that the `found` ones among the facts link."""
    return [(place, goal) for word, place, goal in facts if word == "found"]


def table_links(facts):
    """Return the pairs of tables that the `found` ones among the facts link."""
    return [(place[0], goal[0]) for place, goal in column_links(facts)]


def places_of(facts, word):
    """Return the places of the facts with this word."""
    return [place for own, place, _ in facts if own == word]
