"""Links: pairs of places that lead from the one to the other."""


def reached(place, links):
    """Return a dict of True for what a place leads to, over any number of links, and for the place itself."""
    known = {place: True}
    waiting = [place]
    while waiting:
        here = waiting.pop()
        for start, goal in links:
            if start == here and goal not in known:
                known[goal] = True
                waiting.append(goal)
    return known
