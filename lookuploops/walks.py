"""Walks: runs of plans over worlds, choice by choice."""

from lookuploops.choices import decide, with_row
from lookuploops.searches import NO_ROW, WRITTEN, term_of

REACHED = ()


class Walk:
    """Where a run stands, or what it came to.

    `names` is the dict from the names of rows to references. `todo` is None or a pair of what comes first and the
    rest, which is again such a pair: steps, and dicts of names where a turn ends. `later` is the list of the plans
    that are run behind this one. `told` is the list of what was put in this run, `runs` that of all runs before.
    `aim` is None in a run, then a pair of terms that are to differ, and REACHED if only the tables are lacking; then
    `further` may be the Further rows that are tried.
    """

    def __init__(self, world, plans):
        self.world = world
        self.names = {}
        self.todo = stacked(plans[0], None)
        self.later = plans[1:]
        self.told = []
        self.runs = []
        self.aim = None
        self.further = None

    def moved(self, world):
        """Return a walk that stands where this one stands, in another world."""
        other = Walk(world, [[]])
        other.names = self.names
        other.todo = self.todo
        other.later = self.later
        other.told = list(self.told)
        other.runs = self.runs
        other.aim = self.aim
        return other

    def aimed(self, aim):
        """Return a walk that ran to the end, with this aim."""
        other = Walk(self.world, [[]])
        other.aim = aim
        return other


def stacked(steps, rest):
    """Return pairs of steps with the rest behind the last of them."""
    for step in reversed(list(steps)):
        rest = (step, rest)
    return rest


def behind_turn(todo):
    """Return what is left to do if a turn ends, from the names on that stood ahead of it."""
    while todo is not None and not isinstance(todo[0], dict):
        todo = todo[1]
    return todo


def walked(searches, walk):
    """Go on with a run up to its next choice, or its end; return the walks that come of it."""
    while walk.todo is not None:
        step, rest = walk.todo
        if isinstance(step, dict):
            walk.names = step
            walk.todo = rest
        elif step[0] == "won":
            return [walk.aimed(REACHED)]
        elif step[0] in ("test", "turn", "need"):
            conditions = asked(searches, walk, step)
            holds = False
            worlds = []
            if conditions is not None:
                holds, worlds = decide(searches, walk.world, conditions)
            if holds is None:
                return [walk.moved(world) for world in worlds]
            choose(searches, walk, holds)
        else:
            do_plainly(searches, walk)
    return ended(walk)


def asked(searches, walk, step):
    """Return the conditions on which it depends how a run goes on, or None if they surely do not hold."""
    if step[0] == "test":
        return searches.read_all(step[1], walk.names)
    if step[0] == "turn":
        _, row, depth, conditions, _ = step
        return searches.read_all(conditions, with_name(walk.names, row, depth))
    reference = searches.reference(step[2], walk.names)
    return None if reference == NO_ROW else ((False, "some", reference, NO_ROW),)


def with_name(names, row, reference):
    """Return names with one that is set anew."""
    names = dict(names)
    names[row] = reference
    return names


def choose(searches, walk, holds):
    """Do a step for which it is known whether its conditions hold."""
    step, rest = walk.todo
    if step[0] == "test":
        walk.todo = stacked(step[2] if holds else step[3], rest)
    elif step[0] == "turn":
        _, row, depth, _, steps = step
        walk.todo = rest
        if holds:
            walk.todo = stacked(steps, (walk.names, rest))
            walk.names = with_name(walk.names, row, depth)
    else:
        _, row, search, term, heard = step
        if not holds and heard:
            walk.told.append(("", (term_of(term, walk.names),)))
        walk.names = with_name(walk.names, row, searches.reference(search, walk.names))
        walk.todo = rest if holds else behind_turn(rest)


def do_plainly(searches, walk):
    """Do a step that depends on no condition. (A search is done once its row counts.)"""
    step, rest = walk.todo
    walk.todo = rest
    if step[0] == "set":
        walk.names = with_name(walk.names, step[1], searches.reference(step[2], walk.names))
    elif step[0] == "put":
        walk.told.append((step[1], tuple([term_of(term, walk.names) for term in step[2]])))
    else:
        walk.todo = behind_turn(rest)


def ended(walk):
    """Return the walks that come of a run that ended: the next run, or all ways in which the runs can differ."""
    if walk.later:
        other = Walk(walk.world, walk.later)
        other.runs = walk.runs + [walk.told]
        return [other]
    if not walk.runs:
        return []
    pairs = []
    for one, other in zip(walk.runs[0], walk.told):
        if one[0] != other[0] or len(one[1]) != len(other[1]):
            return [walk.aimed(REACHED)]
        pairs.extend(list(zip(one[1], other[1])))
    if len(walk.runs[0]) != len(walk.told):
        return [walk.aimed(REACHED)]
    return [walk.aimed(pair) for pair in pairs if pair[0] != pair[1]]


def parted(searches, walk):
    """Return the walks that come of the aim that two terms differ."""
    world = walk.world
    unknown = [row for row, _ in walk.aim if row not in world.places and row != WRITTEN]
    if unknown:
        return [walk.moved(child) for child in with_row(searches, world, unknown[0])]
    one, other = [world.node(term, 0) for term in walk.aim]
    if one is None and other is None:
        return []
    if one is not None and other is not None:
        # The world is shared with the walks that have other aims.
        world = world.twin()
        world.demand([(True, "=") + walk.aim])
        if not world.settle():
            return []
    return [walk.moved(world).aimed(REACHED)]
