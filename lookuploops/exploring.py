"""Exploring walks until one of them is shown by tables."""

from lookuploops.endings import endings, misled
from lookuploops.further import least_further, with_further
from lookuploops.searches import Searches
from lookuploops.walks import REACHED, Walk, parted, walked
from lookuploops.worlds import World


def some_tables(rules, tasks):
    """Return tables that show one of some tasks, or None if no tables do.

    A task is the shape of a path and the list of the plans that are to be run along it: two, which are to come to
    different ends, or one, which is to be won.
    """
    return explored(rules, tasks, False)


def fewest_tables(rules, tasks):
    """Return tables with the fewest rows in all that show one of some tasks, or None if no tables do."""
    return explored(rules, tasks, True)


def explored(rules, tasks, fewest):
    """Go on with walks, those with the fewest rows first if they are asked for, until tables are found."""
    searches = Searches()
    waiting = {}
    for shape, plans in tasks:
        for world in worlds_of(rules, shape):
            wait(waiting, Walk(world, plans), fewest)
    while waiting:
        many = min(waiting)
        walk = waiting[many].pop()
        if not waiting[many]:
            del waiting[many]
        tables = None
        if walk.aim is None:
            walks = walked(searches, walk)
        elif walk.aim != REACHED:
            walks = parted(searches, walk)
        elif fewest:
            tables, walks = closed_with_fewest(searches, walk)
        else:
            tables, walks = closed(searches, walk)
        if tables is not None:
            return tables
        for child in walks:
            wait(waiting, child, fewest)
    return None


def wait(waiting, walk, fewest):
    """Put a walk to the others that have as many rows, or to all if that does not matter."""
    many = 0
    if fewest:
        many = walk.world.many
        if walk.further is not None:
            many = many + sum(walk.further.numbers)
    waiting.setdefault(many, []).append(walk)


def worlds_of(rules, shape):
    """Return the worlds that know the rows of a path of a shape, and nothing else."""
    worlds = [World(rules)]
    for depth, table in enumerate(shape, start=1):
        worlds = [child for world in worlds for child in with_path_row(world, table, depth)]
    return [world for world in worlds if world.settle()]


def with_path_row(world, table, depth):
    """Return the worlds in which the row of the path at some depth is a known one or a further one."""
    children = []
    for row in world.rows[table]:
        child = world.twin()
        child.places[depth] = row
        children.append(child)
    child = world.twin()
    row = child.add_row(table)
    if row:
        child.places[depth] = row
        children.append(child)
    return children


def closed(searches, walk):
    """Return the tables that show what a walk came to, or None and walks of which more is known."""
    world, values = paid(walk.world)
    if world is None:
        return None, []
    return ended(searches, walk, world, values)


def closed_with_fewest(searches, walk):
    """Return the same, but for the numbers of further rows that the walk has, the least ones first."""
    if walk.further is None:
        world, _ = paid(walk.world)
        if world is None:
            return None, []
        walk.further = least_further(walk.world)
        return None, [walk]
    world = with_further(walk.world, walk.further)
    values = None if world is None else world.net.solved()
    if values is not None:
        return ended(searches, walk, world, values)
    walks = []
    for further in walk.further.raised(walk.world):
        child = walk.moved(walk.world)
        child.further = further
        walks.append(child)
    return None, walks


def paid(world):
    """Return a world in which further rows pay all that is owed, with values of its nodes, or None twice."""
    worlds = [world]
    while worlds:
        child = worlds.pop()
        values = child.net.solved()
        if values is not None:
            debt = child.unpaid(values)
            if debt is None:
                return child, values
            worlds.extend(child.payments(debt))
    return None, None


def ended(searches, walk, world, values):
    """Return the tables of the known rows, if runs come to the right ones, or None and walks that do.

    Where a run ends is chosen in the world of the walk, without its further rows: if it can end nowhere, that does
    not depend on what they pay.
    """
    reference = misled(searches, world, values)
    if reference is None:
        return world.shown(values), []
    children = endings(walk.world, searches.asked[reference], walk.world.places[reference])
    return None, [walk.moved(child) for child in children]
