"""Exploring walks until one of them is shown by tables, those with fewer rows first."""

from lookuploops.endings import endings, misled
from lookuploops.searches import Searches
from lookuploops.walks import REACHED, Walk, parted, walked
from lookuploops.worlds import World


def fewest(rules, tasks):
    """Return tables with the fewest rows that show one of some tasks, or None if no tables do.

    A task is the shape of a path and the list of the plans that are to be run along it: two, which are to come to
    different ends, or one, which is to be won.
    """
    searches = Searches()
    waiting = {}
    for shape, plans in tasks:
        for world in worlds_of(rules, shape):
            wait(waiting, Walk(world, plans))
    while waiting:
        many = min(waiting)
        walk = waiting[many].pop()
        if not waiting[many]:
            del waiting[many]
        if walk.aim == REACHED:
            tables, walks = closed(searches, walk)
            if tables is not None:
                return tables
        elif walk.aim is None:
            walks = walked(searches, walk)
        else:
            walks = parted(searches, walk)
        for child in walks:
            wait(waiting, child)
    return None


def wait(waiting, walk):
    """Put a walk to the others that know as many rows."""
    waiting.setdefault(walk.world.many, []).append(walk)


def worlds_of(rules, shape):
    """Return the worlds that know the rows of a path of a shape, and nothing else."""
    worlds = [World(rules)]
    for depth, table in enumerate(shape, start=1):
        worlds = [child for world in worlds for child in with_path_row(world, table, depth)]
    return [world for world in worlds if world.settle()]


def with_path_row(world, table, depth):
    """Return the worlds in which the row of the path at some depth is a known one or a further one."""
    children = []
    for row in world.rows[table]:
        child = world.twin()
        child.places[depth] = row
        children.append(child)
    child = world.twin()
    row = child.add_row(table)
    if row:
        child.places[depth] = row
        children.append(child)
    return children


def closed(searches, walk):
    """Return the tables that show what a walk came to, if its rows do, or None and walks of which more is known."""
    world = walk.world
    values = world.net.solved()
    if values is None:
        return None, []
    debt = world.unpaid(values)
    if debt is not None:
        return None, [walk.moved(child) for child in world.payments(debt)]
    reference = misled(searches, world, values)
    if reference is None:
        return world.shown(values), []
    children = endings(world, searches.asked[reference], world.places[reference])
    for child in children:
        child.unended = [other for other in child.unended if other != reference]
    return None, [walk.moved(child) for child in children]
