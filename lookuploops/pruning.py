"""Leaving out the steps of a plan that cannot change what it comes to."""


def pruned(steps):
    """Return the steps without tests that decide nothing, and without searches for rows that none reads."""
    read = {}
    while True:
        kept, names = trimmed(steps, read, False)
        if len(names) == len(read):
            return kept
        read = names


def trimmed(steps, read, followed):
    """Return the steps that count if these names are read, and a dict of True for the names that they read.

    `followed` tells whether steps that count follow in the same turn.
    """
    kept = []
    names = {}
    for step in reversed(list(steps)):
        left, own = trimmed_step(step, read, followed or len(kept) > 0)
        if left is not None:
            kept.append(left)
            for name in own:
                names[name] = True
    kept.reverse()
    return kept, names


def trimmed_step(step, read, followed):
    """Return a step, or None if it does not count, and the list of the names that it reads."""
    word = step[0]
    if word == "test":
        return trimmed_test(step, read, followed)
    if word == "turn":
        _, row, depth, conditions, inner = step
        kept, names = trimmed(inner, read, False)
        if not kept:
            return None, []
        return (word, row, depth, conditions, kept), list(names) + names_in(conditions)
    if word == "set":
        return (step, names_of(step[2])) if followed and step[1] in read else (None, [])
    if word == "need":
        return (step, names_of(step[2])) if followed or step[4] else (None, [])
    if word == "put":
        return step, names_of_terms(step[2])
    return (step, []) if followed or word == "won" else (None, [])


def trimmed_test(step, read, followed):
    word, conditions, yes, no = step
    yes, names = trimmed(yes, read, followed)
    no, more = trimmed(no, read, followed)
    if not yes and not no:
        return None, []
    return (word, conditions, yes, no), list(names) + list(more) + names_in(conditions)


def names_of(search):
    """Return the names of rows that a search reads."""
    _, _, where, until = search
    return names_in(where) + ([] if until is None else names_in(until))


def names_in(conditions):
    """Return the names of rows that conditions read."""
    names = []
    for _, word, left, right in conditions:
        if word == "has":
            names.extend(names_of(left))
        elif word == "=" or word == "<":
            names.extend(names_of_terms([left, right]))
        else:
            names.extend([left, right])
    return names


def names_of_terms(terms):
    return [term[0] for term in terms if not isinstance(term, int)]
