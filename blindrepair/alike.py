"""Whether two misreadings do the same to all right texts, with papers for both answers."""

from blindrepair.checks import check_right
from blindrepair.errors import BadTable
from blindrepair.merging import can_happen
from blindrepair.misreadings import Misreading
from blindrepair.papers import Verdict
from blindrepair.values import copied, equal

EVEN = ("", "")
APART = ("apart", "apart")


class Same(Verdict):
    """Two misreadings do the same to all right texts: how far one is ahead at each standing tells it."""

    def __init__(self, margins, dead):
        self.margins = copied(margins)
        self.dead = copied(dead)

    def __eq__(self, other):
        return isinstance(other, Same) and equal((self.margins, self.dead), (other.margins, other.dead))

    def __bool__(self):
        return True


class Parted(Verdict):
    """A right text that two misreadings turn into unlike texts."""

    def __init__(self, text):
        self.text = copied(text)

    def __eq__(self, other):
        return isinstance(other, Parted) and equal(self.text, other.text)

    def __bool__(self):
        return False


def alike(one, other, right):
    """Whether two misreadings do the same to all right texts to which both can happen: Same or Parted."""
    check_both(one, other, right)
    steps = common_steps(one, other, right)
    live = leading(right, steps)
    ways = ways_of(one, other, steps, live)
    for standing, margin in ways:
        if right.standings[standing][1] and margin != EVEN:
            return Parted(ways[(standing, margin)])
    # Without such a text there is one margin at each standing: two of them cannot both come out even at an end.
    margins = {standing: margin for standing, margin in ways}
    return Same(tuple([(standing,) + margins[standing] for standing in range(len(right)) if standing in margins]),
                dead_ones(steps, live))


def shows_alike(one, other, right, paper):
    """Whether any value is a Same with just the margins and the dead standings, or a Parted that is right."""
    check_both(one, other, right)
    if isinstance(paper, Same):
        return right_same(one, other, right, paper)
    return isinstance(paper, Parted) and paper.text in right and part(one, other, paper.text)


def check_both(one, other, right):
    """Raises an error for what is no Misreading, or no Right."""
    if not isinstance(one, Misreading):
        raise BadTable("one")
    if not isinstance(other, Misreading):
        raise BadTable("other")
    check_right(right)


def common_steps(one, other, right):
    """For each standing its steps by common letters."""
    return [[(letter, to) for letter, to in steps if letter in one and letter in other]
            for steps, ends in right.standings]


def reached_by(steps):
    """The standings that can be reached, as keys."""
    reached = {0: True}
    queue = [0]
    done = 0
    while done < len(queue):
        for _, to in steps[queue[done]]:
            if to not in reached:
                reached[to] = True
                queue.append(to)
        done += 1
    return reached


def leading(right, steps):
    """The standings from which an end can be come to, as keys."""
    live = {at: True for at, (others, ends) in enumerate(right.standings) if ends}
    for _ in steps:
        for at, moves in enumerate(steps):
            if any([to in live for letter, to in moves]):
                live[at] = True
    return live


def dead_ones(steps, live):
    """The standings that can be reached and from which no end can be come to, ascending."""
    reached = reached_by(steps)
    return tuple([at for at in range(len(steps)) if at in reached and at not in live])


def ways_of(one, other, steps, live):
    """The places that can be reached, pairs of a standing and a margin, each with the first text that leads there.

    Two margins at a standing are enough: behind any third one, a text that parts the two misreadings does so behind
    one of the first two as well, and these are come to by lesser texts.
    """
    many = {at: 0 for at in live}
    ways = {}
    queue = []
    if 0 in live:
        ways[(0, EVEN)] = ""
        queue.append((0, EVEN))
        many[0] = 1
    done = 0
    while done < len(queue):
        at, margin = queue[done]
        text = ways[queue[done]]
        done += 1
        for letter, to in steps[at]:
            place = (to, margin_behind(margin, one[letter], other[letter]))
            if to in live and place not in ways and many[to] < 2:
                many[to] += 1
                ways[place] = text + letter
                queue.append(place)
    return ways


def margin_behind(margin, first, second):
    """What each image is longer than the other one when both go on; APART if none begins with the other one."""
    if margin == APART:
        return APART
    more, less = margin
    left = more + first
    right = less + second
    if left.startswith(right):
        return (left[len(right):], "")
    if right.startswith(left):
        return ("", right[len(left):])
    return APART


def right_same(one, other, right, paper):
    """Whether the margins and the dead standings of a Same are just those of two misreadings."""
    steps = common_steps(one, other, right)
    live = leading(right, steps)
    reached = reached_by(steps)
    expected = [at for at in range(len(right)) if at in reached and at in live]
    if not equal(paper.dead, dead_ones(steps, live)) or not are_margins(paper.margins, expected):
        return False
    told = {at: (more, less) for at, more, less in paper.margins}
    return all([is_held(told, right, at) and all(
        [told[to] == margin_behind(told[at], one[letter], other[letter]) for letter, to in steps[at] if to in live])
        for at in told])


def are_margins(margins, expected):
    """Whether any value is a tuple of triples of a standing and two strings, for just the expected standings."""
    if not isinstance(margins, tuple) or len(margins) != len(expected):
        return False
    return all([is_margin(item, at) for item, at in zip(margins, expected)])


def is_margin(value, standing):
    """Whether any value is a triple of this standing and two strings, one of them empty at least."""
    if not isinstance(value, tuple) or len(value) != 3 or not equal(value[0], standing):
        return False
    _, more, less = value
    return isinstance(more, str) and isinstance(less, str) and "" in (more, less)


def is_held(told, right, at):
    """Whether a margin is even where it has to be: at the beginning and at each end."""
    return told[at] == EVEN or not (at == 0 or right.standings[at][1])


def part(one, other, text):
    """Whether two misreadings can happen to a text and turn it into unlike texts."""
    return can_happen(one, text) and can_happen(other, text) and one.image(text) != other.image(text)
