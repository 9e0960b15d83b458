"""A look at leads, living rests and dead ones that somebody tells: whether they are right for two lists."""

from blindrepair.letters import is_text
from blindrepair.meetings import END, EVEN, SIDES, START, lead_behind, moves_from


def right_leads(first, second, leads, dead):
    """Whether any two values are right leads and dead rests of two lists of pairs."""
    known = told_leads(leads)
    lost = told_rests(dead)
    if not are_apart(known, lost):
        return False
    known[START] = EVEN
    known[END] = EVEN
    return stays_in(first, second, lost) and all(
        [target in known and known[target] == lead_behind(known[place], taker, label)
         for place, taker, label, target in moves_beside(first, second, known, lost)])


def right_still(first, second, living, dead, side, changed):
    """Whether two values are right living and dead rests, and no living step of a side has a changed letter."""
    known = told_rests(living)
    lost = told_rests(dead)
    if not are_apart(known, lost):
        return False
    known[START] = True
    known[END] = True
    return stays_in(first, second, lost) and all(
        [target in known and (taker != side or label not in changed)
         for place, taker, label, target in moves_beside(first, second, known, lost)])


def are_apart(known, lost):
    """Whether both are told, and no rest stands in both."""
    return known is not None and lost is not None and not any([rest in lost for rest in known])


def moves_beside(first, second, places, lost):
    """The steps from some places that do not lead to a dead rest, each with the place ahead of it."""
    found = []
    for place in places:
        for taker, label, target in moves_from(first, second, place):
            if target not in lost:
                found.append((place, taker, label, target))
    return found


def stays_in(first, second, rests):
    """Whether each step from each of some rests leads to one of them."""
    return not moves_beside(first, second, rests, rests)


def is_rest(ahead, rest):
    """Whether any two values are a row and what it can be ahead by."""
    return is_side(ahead) and is_text(rest) and rest != ""


def is_lead(led, lead):
    """Whether any two values are a row and the labels that it can lead by."""
    return is_side(led) and is_text(lead) and (led, lead) != ("two", "")


def is_side(value):
    """Whether any value names a row."""
    return isinstance(value, str) and value in SIDES


def told_rests(value):
    """The rests of a tuple of rests as keys; None for any value that is no such tuple, or has one twice."""
    if not isinstance(value, tuple):
        return None
    told = {}
    for item in value:
        if not isinstance(item, tuple) or len(item) != 2 or not is_rest(item[0], item[1]) or item in told:
            return None
        told[item] = True
    return told


def told_leads(value):
    """The leads of a tuple of quadruples by their rests; None for what is no such tuple, or has a rest twice."""
    if not isinstance(value, tuple):
        return None
    told = {}
    for item in value:
        if not isinstance(item, tuple) or len(item) != 4:
            return None
        ahead, rest, led, lead = item
        if not is_rest(ahead, rest) or not is_lead(led, lead) or (ahead, rest) in told:
            return None
        told[(ahead, rest)] = (led, lead)
    return told
