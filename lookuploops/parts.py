"""The parts of a line: what stands ahead of its conditions, those of its `where` and those of its `until`."""

from lookuploops.words import split_at, words_of


class Parts:
    """A line in its parts: `head` is a list of words, `where` and `until` are lists of conditions or None.

    A condition is a list of words here; a part that is written without conditions has one without words.
    """

    def __init__(self, line):
        words = words_of(line)
        self.head = words[:place_of(words, ("where", "until"))]
        self.where = None
        self.until = None
        rest = words[len(self.head):]
        if rest and rest[0] == "where":
            end = place_of(rest, ("until",))
            self.where = split_at(rest[1:end], "and")
            rest = rest[end:]
        if rest:
            self.until = split_at(rest[1:], "and")

    def written(self):
        """Return the line with the conditions that the parts have by now; a part without any is left out."""
        words = list(self.head)
        for mark, conditions in (("where", self.where), ("until", self.until)):
            if conditions:
                words = words + [mark] + joined(conditions)
        return " ".join(words)


def place_of(words, marks):
    """Return the index of the first word that is one of the marks, or the number of the words."""
    for at, word in enumerate(words):
        if word in marks:
            return at
    return len(words)


def joined(conditions):
    """Return the words of conditions with `and` between them."""
    words = []
    for condition in conditions:
        if words:
            words.append("and")
        words.extend(condition)
    return words
