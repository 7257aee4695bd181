"""Choices: the worlds that come of what a run asks next."""

from lookuploops.net import FAILS, OPEN
from lookuploops.searches import rows_read
from lookuploops.worlds import ahead


def decide(searches, world, conditions):
    """Return whether conditions hold together, or None and the worlds in which more of it is decided."""
    asked = []
    waiting = []
    for condition in conditions:
        unknown = unknown_rows([condition], world)
        if unknown:
            waiting.extend(unknown)
            continue
        verdict = world.verdict(condition)
        if verdict == OPEN:
            decided = world.decided.get((condition,))
            if decided is None:
                asked.append(condition)
            elif not decided:
                verdict = FAILS
        if verdict == FAILS:
            return False, []
    asked = tuple(asked)
    if asked:
        if world.decided.get(asked) is False:
            return False, []
        return None, both_ways(world, asked)
    if waiting:
        return None, with_row(searches, world, waiting[0])
    return True, []


def unknown_rows(conditions, world):
    """Return the references that conditions read and of which it is not known which row they are."""
    return [row for row in rows_read(conditions) if row not in world.places]


def both_ways(world, conditions):
    """Return the worlds in which conditions hold together, and in which they do not."""
    yes = world.twin()
    yes.demand(conditions)
    for condition in conditions:
        yes.decided[(condition,)] = True
    no = world.twin()
    no.refuse(conditions)
    no.decided[conditions] = False
    return [child for child in [yes, no] if child.settle()]


def with_row(searches, world, reference):
    """Return the worlds in which it is known which row a search comes to, or first a row that it reads."""
    question = searches.asked[reference]
    way, _, where, until = question
    unknown = unknown_rows(where if until is None else where + until, world)
    if unknown:
        return with_row(searches, world, unknown[0])
    children = []
    for child, row, stop in outcomes(world, question):
        child.places[reference] = row
        if way == "first":
            pass_by_to_first(child, question, row, stop)
        else:
            pass_by_to_last(child, question, row, stop)
        if child.settle():
            children.append(child)
    return children


def outcomes(world, question):
    """Return tuples of a world, the row that a search comes to in it, and the row that ends it without; or 0."""
    way, table, where, until = question
    ended = [(world.twin(), 0)]
    if until is not None:
        ended.extend(picked(world, table, until))
    told = [(child, 0, stop) for child, stop in ended]
    if way == "first":
        return told + [(child, row, 0) for child, row in picked(world, table, where)]
    for child, stop in ended:
        for grandchild, row in picked(child, table, where):
            if row != stop:
                told.append((grandchild, row, stop))
    return told


def picked(world, table, conditions):
    """Return the worlds with a row that fulfils conditions, and this row: each known one, and a further one."""
    told = []
    for row in world.rows[table]:
        if all(world.verdict(condition, row) != FAILS for condition in conditions):
            child = world.twin()
            child.demand(conditions, row)
            told.append((child, row))
    child = world.twin()
    row = child.add_row(table)
    if row:
        child.demand(conditions, row)
        told.append((child, row))
    return [(child, row) for child, row in told if child.net.settle()]


def pass_by_to_first(world, question, row, stop):
    """Forbid that a search for the first row ends at another row than it does."""
    _, table, where, until = question
    end = row if row else stop
    world.ban(table, where, 0, end)
    if until is not None:
        world.ban(table, until, 0, end)
        if row:
            world.refuse(until, row)


def pass_by_to_last(world, question, row, stop):
    """Forbid that a search for the last row comes to another row, or ends at another one, than it does."""
    _, table, where, until = question
    world.ban(table, where, row, stop)
    if until is not None:
        world.ban(table, until, 0, stop)
    if row and stop:
        world.net.clauses.append([ahead(row, stop)])
