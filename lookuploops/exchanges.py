"""Exchanges: lines of a program written in another way, or left out."""

from lookuploops.errors import BadProgram, NoKey
from lookuploops.keyed import all_fit_index, kept_text, key_place, rows_text, search_at
from lookuploops.leaving import many_conditions, without_condition, without_line
from lookuploops.programs import Program
from lookuploops.questions import alike, check_over

WAYS = ("find", "last", "get first", "get last")


def by_rows(program, line):
    """Return the program in which a line `find` or `last` goes by a new index that keeps all."""
    place = key_place(program, line)
    if place is None:
        raise NoKey(line)
    return Program(rows_text(program, line, place))


def by_kept(program, line, *, keep="first"):
    """Return the program in which a line `find` or `last` is a `get` from a new index that keeps one row."""
    place = key_place(program, line)
    if place is None or not all_fit_index(program, line, place):
        raise NoKey(line)
    return Program(kept_text(program, line, place, keep))


def ways(program, line, *, under=None):
    """Return the list of the ways to write a line `find` or `last` so that the program stays alike."""
    check_over(program, under)
    if search_at(program, line) is None:
        raise NoKey(line)
    return [way for way in WAYS if goes(program, line, way, under)]


def goes(program, line, way, under):
    """Tell whether a program can be written with a line in this way, and stays alike."""
    try:
        changed = rewritten(program, line, way)
    except (NoKey, BadProgram):
        return False
    return alike(program, changed, under=under)


def rewritten(program, line, way):
    """Return the program with a line `find` or `last` written in this way."""
    if way == "get first":
        return by_kept(program, line, keep="first")
    if way == "get last":
        return by_kept(program, line, keep="last")
    lines = list(program)
    _, _, rest = lines[line - 1].partition(" ")
    lines[line - 1] = way + " " + rest
    return Program("\n".join(lines))


def idle_conditions(program, *, under=None):
    """Return the list of the tuples (line, number) of the conditions that could be left out."""
    check_over(program, under)
    told = []
    for line, text in enumerate(program, start=1):
        for number in range(1, many_conditions(text) + 1):
            if left_out(program, line, number, under) is not None:
                told.append((line, number))
    return told


def idle_lines(program, *, under=None):
    """Return the list of the lines that could be left out."""
    check_over(program, under)
    return [line for line, _ in enumerate(program, start=1) if left_out(program, line, None, under) is not None]


def thinned(program, *, under=None):
    """Return the program without what is idle, left out one after another from the last line to the first."""
    check_over(program, under)
    for line in range(len(list(program)), 0, -1):
        for number in list(range(many_conditions(program[line]), 0, -1)) + [None]:
            thinner = left_out(program, line, number, under)
            if thinner is not None:
                program = thinner
    return program


def left_out(program, line, number, under):
    """Return the program without a condition of a line, or with None without the line, if this is idle, or None."""
    text = without_line(program, line) if number is None else without_condition(program, line, number)
    if text is None:
        return None
    try:
        changed = Program(text)
    except BadProgram:
        return None
    return changed if alike(program, changed, under=under) else None
