"""Verdicts: whether some row of misreadings turns a right text into another right text."""

from blindrepair.checks import check_misreadings, check_right
from blindrepair.effects import Search
from blindrepair.errors import BadRight
from blindrepair.letters import check_text
from blindrepair.papers import Verdict
from blindrepair.values import copied, equal

BEGINNING = (0, 0, False)


class Calm(Verdict):
    """No row turns a right text into another one: an Entry for each effect tells it."""

    def __init__(self, entries):
        self.entries = copied(entries)

    def __eq__(self, other):
        return isinstance(other, Calm) and equal(self.entries, other.entries)

    def __bool__(self):
        return True


class Clash(Verdict):
    """A row turns a right text into another right text."""

    def __init__(self, text, row):
        self.text = copied(text)
        self.row = copied(row)

    def __eq__(self, other):
        return isinstance(other, Clash) and equal((self.text, self.row), (other.text, other.row))

    def __bool__(self):
        return False


class Entry:
    """An effect: how it is made, where each misreading ahead leads, and to which standings texts and images lead."""

    def __init__(self, first, parent, nexts, pairs):
        self.first = copied(first)
        self.parent = copied(parent)
        self.nexts = copied(nexts)
        self.pairs = copied(pairs)

    def __eq__(self, other):
        return isinstance(other, Entry) and equal(
            (self.first, self.parent, self.nexts, self.pairs), (other.first, other.parent, other.nexts, other.pairs))


def decide(misreadings, right):
    """Whether there is a clash: Calm or Clash."""
    check_misreadings(misreadings)
    check_right(right)
    search = Search(misreadings, right)
    looked = []
    while search.reaches(len(looked)):
        ways = ways_of(right, search.found[len(looked)])
        text = clashing(right, ways)
        if text is not None:
            return Clash(text, search.rows[len(looked)])
        looked.append(ascending(right, ways))
    search.finish()
    return Calm(tuple([entry_of(search, at, pairs) for at, pairs in enumerate(looked)]))


def risk_of(misreadings, right, text):
    """The least row that turns a right text into another right text, None if there is none."""
    check_misreadings(misreadings)
    check_right(right)
    check_text(text)
    if text not in right:
        raise BadRight("text")
    search = Search(misreadings, right)
    at = 0
    while search.reaches(at):
        effect = search.found[at]
        if text in effect and effect.changes(text):
            return search.rows[at]
        at += 1
    search.finish()
    return None


def entry_of(search, at, pairs):
    """The entry of the effect with a number."""
    first, parent = search.beginnings[at]
    nexts = [search.nexts[(at, index)] for index in range(len(search.misreadings))]
    return Entry(first, parent, tuple(nexts), pairs)


def clash_text(right, effect):
    """The least right text that a row with this effect turns into another right one, None if there is none."""
    return clashing(right, ways_of(right, effect))


def ways_of(right, effect):
    """For each triple (p, q, changed) that some text has, the least such text, in the order of these texts."""
    steps = open_steps(right, effect)
    ways = {BEGINNING: ""}
    queue = [BEGINNING]
    done = 0
    while done < len(queue):
        triple = queue[done]
        done += 1
        for letter, target in triples_behind(steps, triple):
            if target not in ways:
                ways[target] = ways[triple] + letter
                queue.append(target)
    return ways


def open_steps(right, effect):
    """For each standing its steps by letters that are not barred.

    A step is a letter, where it leads, where its image leads from each standing, and whether its image is another one.
    """
    return [[(letter, to, effect[letter], effect.single(letter) != letter)
             for letter, to in steps if effect[letter] is not None] for steps, ends in right.standings]


def triples_behind(steps, triple):
    """The letters that lead on from a triple, each with the triple to which it leads."""
    p, q, changed = triple
    return [(letter, (to, leads[q], changed or changes)) for letter, to, leads, changes in steps[p]
            if leads[q] is not None]


def clashing(right, ways):
    """The first text whose triple is that of a clash, None if there is none."""
    for triple in ways:
        if is_clash(right, triple):
            return ways[triple]
    return None


def is_clash(right, triple):
    """Whether texts of a triple are right and turn into other right texts."""
    p, q, changed = triple
    return changed and right.standings[p][1] and right.standings[q][1]


def ascending(right, ways):
    """The triples of some ways, ascending."""
    return tuple([(p, q, changed) for p in range(len(right)) for q in range(len(right)) for changed in (False, True)
                  if (p, q, changed) in ways])
