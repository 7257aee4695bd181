"""The texts of programs without a condition of a line, or without a line."""

from lookuploops.parts import Parts, joined
from lookuploops.words import split_at, words_of

LEAVABLE = ("index", "find", "last", "get", "need", "put", "next")


def many_conditions(line):
    """Return the number of the conditions of a line."""
    words = words_of(line)
    if words[0] == "if":
        return len(split_at(words, "and"))
    parts = Parts(line)
    return len(parts.where or []) + len(parts.until or [])


def without_condition(program, line, number):
    """Return the text without the condition of a line with this number, from 1, or None if it cannot be left out."""
    lines = list(program)
    words = words_of(lines[line - 1])
    if words[0] == "if":
        conditions = without_item(split_at(words[1:], "and"), number - 1)
        if not conditions:
            return None
        lines[line - 1] = " ".join(["if"] + joined(conditions))
        return "\n".join(lines)
    parts = Parts(lines[line - 1])
    many = len(parts.where or [])
    if number <= many:
        parts.where = without_item(parts.where, number - 1)
    else:
        parts.until = without_item(parts.until, number - 1 - many)
    lines[line - 1] = parts.written()
    return "\n".join(lines)


def without_line(program, line):
    """Return the text without a line, or None if a line of its kind cannot be left out."""
    lines = list(program)
    if words_of(lines[line - 1])[0] not in LEAVABLE:
        return None
    return "\n".join(without_item(lines, line - 1))


def without_item(rows, at):
    """Return a list without the item at a place."""
    return rows[:at] + rows[at + 1:]
