"""Where searches with an `until` end.

Of a search that comes to no row, or to the last one that fits, it is not known where it ended. This is left open as
long as it can end somewhere: mostly it does not matter, and each choice would double what is to be explored. It is
chosen in the end, where the rows that are known then would lead the search to another row.
"""

from lookuploops.net import FAILS, is_kept
from lookuploops.worlds import NODES, PLACE


def can_end(world, question, row):
    """Tell whether a search that comes to a row, or 0, can end somewhere."""
    for stop in stops(world, question):
        if ended(world, question, row, stop) is not None:
            return True
    return False


def endings(world, question, row):
    """Return the worlds in which it is known where a search that comes to a row, or 0, ends."""
    children = [ended(world, question, row, stop) for stop in stops(world, question)]
    return [child for child in children if child is not None]


def stops(world, question):
    """Return the rows that could end a search: 0 for none, each known one that can be so, None for a further one."""
    _, table, _, until = question
    told = [0]
    for row in world.rows[table]:
        if all(world.verdict(condition, row) != FAILS for condition in until):
            told.append(row)
    return told + [None]


def ended(world, question, row, stop):
    """Return the world in which a search that comes to a row, or 0, ends at another row, or None."""
    _, table, where, until = question
    child = world.twin()
    if stop is None:
        stop = child.add_row(table)
        if stop == 0:
            return None
    if stop:
        child.demand(until, stop)
    # Rows ahead of this one may fulfil the `until`, too: the search comes to the same row then.
    child.ban(table, where, row, stop)
    return child if child.settle() else None


def misled(searches, world, values):
    """Return a search that the known rows, with these values, lead to another row than it is to come to, or None."""
    for reference in world.unended:
        if come_to(world, searches.asked[reference], values) != world.places[reference]:
            return reference
    return None


def come_to(world, question, values):
    """Return the row, or 0, that a search comes to among the known rows with these values."""
    way, table, where, until = question
    found = 0
    for _, row in sorted([(values[row * NODES + PLACE], row) for row in world.rows[table]]):
        if are_met(world, until, row, values):
            return found
        if are_met(world, where, row, values):
            found = row
            if way == "first":
                return found
    return found


def are_met(world, conditions, row, values):
    """Tell whether a row fulfils conditions where the nodes have these values."""
    return all(is_kept(world.ways(condition, row, False), values) for condition in conditions)
