"""Small tables, all of them, to compare with what facts imply. The meaning of facts is written anew here."""

import itertools


def columns_of(schema):
    return [f"{table}.{column}" for table in schema.tables for column in schema.columns(table)]


def plain_lines(schema):
    lines = [f"{word} {place}" for word in ("unique", "sorted") for place in columns_of(schema)]
    return lines + [f"{word} {table}" for word in ("single", "filled") for table in schema.tables]


def found_lines(schema):
    places = columns_of(schema)
    return [f"found {place} in {goal}" for place in places for goal in places]


def all_tables(schema, values, most):
    choices = []
    for table in schema.tables:
        rows = list(itertools.product(values, repeat=len(schema.columns(table))))
        choices.append([list(some) for many in range(most[table] + 1) for some in itertools.product(rows, repeat=many)])
    for chosen in itertools.product(*choices):
        yield dict(zip(schema.tables, chosen))


def column(schema, tables, place):
    table, name = place.split(".")
    at = schema.columns(table).index(name)
    return [row[at] for row in tables[table]]


def keeps(schema, tables, line):
    word, place, *rest = line.split(" ")
    if word == "single":
        return len(tables[place]) < 2
    if word == "filled":
        return tables[place] != []
    values = column(schema, tables, place)
    if word == "unique":
        return all(one != other for one, other in itertools.combinations(values, 2))
    if word == "sorted":
        return all(one <= other for one, other in itertools.combinations(values, 2))
    others = column(schema, tables, rest[1])
    return all(value in others for value in values)


def masks(schema, lines, values, most):
    """For each line the number whose bits tell which tables keep it, and the number for all tables."""
    kept = dict.fromkeys(lines, 0)
    many = 0
    for tables in all_tables(schema, values, most):
        for line in lines:
            if keeps(schema, tables, line):
                kept[line] |= 1 << many
        many += 1
    return kept, (1 << many) - 1
