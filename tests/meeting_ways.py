"""A second, plain way of reckoning with meetings: rows of pairs are joined and compared as texts.

Nothing here knows of steps from rest to rest: all pairs of rows are built up letter by letter, and what is ahead is
read off the joined words.
"""


def ahead_by(one, other):
    """Which of two texts is longer, and by what; None if none of them begins with the other one."""
    if one.startswith(other):
        return ("one", one[len(other):])
    if other.startswith(one):
        return ("two", other[len(one):])
    return None


class Plain:
    """All pairs of rows up to a number of pairs, of two dicts from letters to words."""

    def __init__(self, first, second, most):
        self.reached = {}
        self.ends = []
        self.living = set()
        self.used = {"one": set(), "two": set()}
        self.lists = {"one": first, "two": second}
        for letter in first:
            self.build([(letter, "")], most)

    def joined(self, side, labels):
        return "".join(self.lists[side][letter] for letter in labels)

    def build(self, way, most):
        """Goes on from the last pair of labels of a way, a list of all pairs of labels so far."""
        one, other = way[-1]
        rest = ahead_by(self.joined("one", one), self.joined("two", other))
        if rest is None:
            return
        if rest[1] == "":
            self.ends.append((one, other))
            self.mark(way)
            return
        self.reached.setdefault(rest, set()).add(ahead_by(one, other))
        if len(way) == most:
            return
        for letter in self.lists["two" if rest[0] == "one" else "one"]:
            self.build(way + [(one, other + letter) if rest[0] == "one" else (one + letter, other)], most)

    def mark(self, way):
        for one, other in way[:-1]:
            self.living.add(ahead_by(self.joined("one", one), self.joined("two", other)))
        self.used["one"] |= set(way[-1][0])
        self.used["two"] |= set(way[-1][1])

    def leads(self):
        """The quadruples of the living rests, ascending, if each has one lead; None if one has several or none."""
        if any(one != other for one, other in self.ends):
            return None
        told = []
        for rest in sorted(self.living):
            if len(self.reached[rest]) > 1 or None in self.reached[rest]:
                return None
            told.append(rest + next(iter(self.reached[rest])))
        return tuple(told)

    def dead(self):
        return tuple(sorted(set(self.reached) - self.living))
