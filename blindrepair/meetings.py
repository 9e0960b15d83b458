"""Meetings of two lists of pairs, each pair with a word and a label.

The start, the rests and the end are pairs of two strings; the end stands for "no rest". A lead is such a pair, too.
"""

SIDES = ("one", "two")
START = ("start", "")
END = ("end", "")
EVEN = ("one", "")


class Meetings:
    """The start, all rests that can be reached and the end, with the steps between them."""

    def __init__(self, first, second):
        self.moves = all_moves(first, second)
        self.living = all_living(self.moves)
        self.ways = ways_from(self.moves, START)


def other_side(side):
    """The row that is not this one."""
    return "two" if side == "one" else "one"


def place_behind(ahead, rest, word):
    """Where the row that is not ahead comes to with a word; None if it cannot take it."""
    if word == rest:
        return END
    if rest.startswith(word):
        return (ahead, rest[len(word):])
    if word.startswith(rest):
        return (other_side(ahead), word[len(rest):])
    return None


def moves_from(first, second, place):
    """The steps from a place: triples of the row that takes a pair, its label, and where it leads."""
    if place == END:
        return []
    if place == START:
        return [("one", label, ("one", word)) for word, label in first]
    ahead, rest = place
    taker = other_side(ahead)
    pairs = first if taker == "one" else second
    tried = [(taker, label, place_behind(ahead, rest, word)) for word, label in pairs]
    return [move for move in tried if move[2] is not None]


def all_moves(first, second):
    """The steps from all places that can be reached, in the order in which these are met."""
    moves = {}
    met = {START: True}
    queue = [START]
    while len(moves) < len(queue):
        place = queue[len(moves)]
        found = moves_from(first, second, place)
        for _, _, target in found:
            if target not in met:
                met[target] = True
                queue.append(target)
        moves[place] = found
    return moves


def all_living(moves):
    """The places from which the end can be reached, as keys."""
    living = {END: True}
    again = True
    while again:
        again = False
        for place in moves:
            if place not in living and any([target in living for taker, label, target in moves[place]]):
                living[place] = True
                again = True
    return living


def ways_from(moves, place):
    """For each place that can be reached from one, the labels of both rows on a shortest way to it."""
    ways = {place: ("", "")}
    queue = [place]
    done = 0
    while done < len(queue):
        reached = queue[done]
        for taker, label, target in moves[reached]:
            if target not in ways:
                ways[target] = with_label(ways[reached], taker, label)
                queue.append(target)
        done += 1
    return ways


def with_label(way, taker, label):
    """The labels of both rows when one of them takes a pair."""
    one, other = way
    return (one + label, other) if taker == "one" else (one, other + label)


def ended(meetings, way, place):
    """The labels of a meeting that begins with a way to a living place."""
    one, other = ways_from(meetings.moves, place)[END]
    return (way[0] + one, way[1] + other)


def lead_of(way):
    """The lead of two labels, None if none of them begins with the other one."""
    one, other = way
    if one.startswith(other):
        return ("one", one[len(other):])
    if other.startswith(one):
        return ("two", other[len(one):])
    return None


def unlike_meeting(meetings):
    """The labels of both rows of a meeting that is not alike, None if all are."""
    for place in meetings.moves:
        for taker, label, target in meetings.moves[place]:
            if target in meetings.living:
                way = with_label(meetings.ways[place], taker, label)
                lead = lead_of(way)
                known = EVEN if target == END else lead_of(meetings.ways[target])
                if lead is None or lead != known:
                    found = ended(meetings, way, target)
                    # Two ways with unlike leads to one place: behind one of them at least, the labels are unlike.
                    return ended(meetings, meetings.ways[target], target) if found[0] == found[1] else found
    return None


def meeting_with(meetings, side, labels):
    """The labels of both rows of a meeting in which the row of a side has one of some labels; None if none has."""
    for place in meetings.moves:
        for taker, label, target in meetings.moves[place]:
            if taker == side and label in labels and target in meetings.living:
                return ended(meetings, with_label(meetings.ways[place], taker, label), target)
    return None


def rests_of(meetings, living):
    """The living or the dead rests that can be reached, ascending."""
    places = [place for place in meetings.moves if (place in meetings.living) == living]
    found = []
    # The start and the end are no rests, and stand on no side.
    for side in SIDES:
        found.extend([(side, word) for word in sorted([str(rest) for ahead, rest in places if ahead == side])])
    return tuple(found)


def leads_of(meetings):
    """The living rests with their leads, ascending, if all meetings are alike."""
    return tuple([rest + lead_of(meetings.ways[rest]) for rest in rests_of(meetings, True)])


def lead_behind(lead, taker, label):
    """The lead when a row takes a pair with this label; None if there is none."""
    led, more = lead
    if led == taker:
        return (taker, more + label)
    if more.startswith(label):
        return EVEN if more == label else (led, more[len(label):])
    if label.startswith(more):
        return (taker, label[len(more):])
    return None
