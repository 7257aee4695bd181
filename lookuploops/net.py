"""Integers between which differences are bounded.

A node stands for an integer; the node 0 stands for 0. An atom (x, y, most) says that x - y is at most `most`.
A literal is a tuple of atoms, all of which are to hold; so () holds anyhow. A clause is a list of literals, at
least one of which is to hold.
"""

HOLDS = 1
OPEN = 0
FAILS = -1


class Net:
    """Bounds that are closed under addition, as dicts from x to y to the most of x - y, and clauses.

    The dicts within `bounds` are shared with other nets: they are replaced, never changed.
    """

    def __init__(self, bounds, clauses):
        self.bounds = bounds
        self.clauses = clauses

    def twin(self):
        """Return a net of its own with the same bounds and clauses."""
        return Net(dict(self.bounds), list(self.clauses))

    def judge(self, literal):
        """Tell whether by the bounds a literal surely holds, surely fails, or is open."""
        bounds = self.bounds
        verdict = HOLDS
        for x, y, most in literal:
            if x == y:
                if most < 0:
                    return FAILS
                continue
            held = bounds[x].get(y)
            if held is not None and held <= most:
                continue
            back = bounds[y].get(x)
            if back is not None and back + most < 0:
                return FAILS
            verdict = OPEN
        return verdict

    def claim(self, literal):
        """Bound differences so that a literal holds; return whether integers can keep the bounds."""
        for x, y, most in literal:
            if not self.bind(x, y, most):
                return False
        return True

    def bind(self, x, y, most):
        """Bound one difference, and with it all that follow; return whether integers can keep the bounds."""
        bounds = self.bounds
        if x == y:
            return most >= 0
        held = bounds[x].get(y)
        if held is not None and held <= most:
            return True
        back = bounds[y].get(x)
        if back is not None and back + most < 0:
            return False
        ahead = [(x, most)] + [(node, row[x] + most) for node, row in bounds.items() if x in row]
        behind = [(y, 0)] + list(bounds[y].items())
        for node, start in ahead:
            bounds[node] = lowered(bounds[node], node, start, behind)
        return True

    def settle(self):
        """Claim each literal that is the only one left of a clause; return whether no clause was broken."""
        moved = True
        while moved:
            moved = False
            kept = []
            for clause in self.clauses:
                left = self.left_of(clause)
                if left is None:
                    continue
                if len(left) > 1:
                    kept.append(left)
                elif not left or not self.claim(left[0]):
                    return False
                else:
                    moved = True
            self.clauses = kept
        return True

    def left_of(self, clause):
        """Return the literals of a clause that are open, or None if one of the clause surely holds."""
        left = []
        for literal in clause:
            verdict = self.judge(literal)
            if verdict == HOLDS:
                return None
            if verdict == OPEN:
                left.append(literal)
        return left

    def model(self):
        """Return integers for all nodes that keep the bounds, differing ones where there is room."""
        behind = {node: [] for node in self.bounds}
        for node, row in self.bounds.items():
            for other, most in row.items():
                behind[other].append((node, most))
        values = {}
        lows = {0: 0}
        highs = {0: 0}
        used = {}
        for node, row in self.bounds.items():
            value = chosen(lows.get(node), highs.get(node), used)
            values[node] = value
            used[value] = True
            for other, most in row.items():
                if other not in lows or lows[other] < value - most:
                    lows[other] = value - most
            for other, most in behind[node]:
                if other not in highs or highs[other] > value + most:
                    highs[other] = value + most
        return values

    def solved(self):
        """Return integers that keep the bounds and the clauses, or None if none do; the net must be settled."""
        values = self.model()
        broken = [clause for clause in self.clauses if not is_kept(clause, values)]
        if not broken:
            return values
        for literal in shortest(broken):
            child = self.twin()
            if child.claim(literal) and child.settle():
                found = child.solved()
                if found is not None:
                    return found
        return None


def lowered(row, node, start, behind):
    """Return the bounds of a node, lowered by what follows from a bound of `start` on the first one behind."""
    lower = None
    for other, more in behind:
        held = row.get(other)
        if other != node and (held is None or start + more < held):
            if lower is None:
                lower = dict(row)
            lower[other] = start + more
    return row if lower is None else lower


def chosen(low, high, used):
    """Return an integer from low to high, either of which may be None, that is not used if there is one."""
    if low is None and high is not None:
        value = high
        while value in used:
            value = value - 1
        return value
    first = 0 if low is None else low
    value = first
    while value in used and (high is None or value < high):
        value = value + 1
    return first if value in used else value


def is_kept(clause, values):
    """Tell whether one of the literals of a clause holds for these integers."""
    for literal in clause:
        if all(values[x] - values[y] <= most for x, y, most in literal):
            return True
    return False


def shortest(clauses):
    """Return the first of the shortest clauses."""
    best = clauses[0]
    for clause in clauses:
        if len(clause) < len(best):
            best = clause
    return best
