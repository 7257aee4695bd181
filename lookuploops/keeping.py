"""Whether tables keep a fact."""


def keeps(schema, tables, fact):
    """Tell whether tables, which must be right for the schema, keep a fact."""
    word, place, goal = fact
    if word == "single":
        return len(tables[place[0]]) <= 1
    if word == "filled":
        return len(tables[place[0]]) >= 1
    values = column_values(schema, tables, place)
    if word == "unique":
        return len(set(values)) == len(values)
    if word == "sorted":
        return values == sorted(values)
    return are_among(values, column_values(schema, tables, goal))


def column_values(schema, tables, place):
    """Return the values of a column, in the order of the rows."""
    table, column = place
    at = schema.columns(table).index(column)
    return [row[at] for row in tables[table]]


def are_among(values, others):
    """Tell whether each of the values is one of the others."""
    known = set(others)
    for value in values:
        if value not in known:
            return False
    return True
