"""Choices: the worlds that come of what a run asks next."""

from lookuploops.endings import can_end
from lookuploops.net import FAILS, OPEN
from lookuploops.searches import rows_read


def decide(searches, world, conditions):
    """Return whether conditions hold together, or None and the worlds in which more of it is decided."""
    asked = []
    waiting = []
    for condition in conditions:
        unknown = unknown_rows([condition], world)
        if unknown:
            waiting.extend(unknown)
            continue
        verdict = world.verdict(condition)
        if verdict == OPEN:
            decided = world.decided.get((condition,))
            if decided is None:
                asked.append(condition)
            elif not decided:
                verdict = FAILS
        if verdict == FAILS:
            return False, []
    asked = tuple(asked)
    if asked:
        if world.decided.get(asked) is False:
            return False, []
        return None, both_ways(world, asked)
    if waiting:
        return None, with_row(searches, world, waiting[0])
    return True, []


def unknown_rows(conditions, world):
    """Return the references that conditions read and of which it is not known which row they are."""
    return [row for row in rows_read(conditions) if row not in world.places]


def both_ways(world, conditions):
    """Return the worlds in which conditions hold together, and in which they do not."""
    yes = world.twin()
    yes.demand(conditions)
    for condition in conditions:
        yes.decided[(condition,)] = True
    no = world.twin()
    no.refuse(conditions)
    no.decided[conditions] = False
    return [child for child in [yes, no] if child.settle()]


def with_row(searches, world, reference):
    """Return the worlds in which it is known which row a search comes to, or first a row that it reads."""
    question = searches.asked[reference]
    _, table, where, until = question
    unknown = unknown_rows(where if until is None else where + until, world)
    if unknown:
        return with_row(searches, world, unknown[0])
    children = []
    for child, row in [(world.twin(), 0)] + picked(world, table, where):
        child.places[reference] = row
        pass_by(child, question, row)
        left_open = until is not None and (row == 0 or question[0] == "last")
        if left_open:
            child.unended = child.unended + [reference]
        if child.settle() and (not left_open or can_end(child, question, row)):
            children.append(child)
    return children


def picked(world, table, conditions):
    """Return tuples of a world and a row that is to fulfil conditions in it: each known row, and a further one."""
    told = []
    for row in world.rows[table]:
        if all(world.verdict(condition, row) != FAILS for condition in conditions):
            child = world.twin()
            child.demand(conditions, row)
            told.append((child, row))
    child = world.twin()
    row = child.add_row(table)
    if row:
        child.demand(conditions, row)
        told.append((child, row))
    return told


def pass_by(world, question, row):
    """Forbid what would lead a search to another row than this one, or 0, but for what its `until` decides."""
    way, table, where, until = question
    if until is None:
        low, high = (0, row) if way == "first" else (row, 0)
        world.ban(table, where, low, high)
    elif row:
        world.ban(table, until, 0, row)
        world.refuse(until, row)
        if way == "first":
            world.ban(table, where, 0, row)
