"""Origins: the texts of which a text can come."""

from blindrepair.backwards import texts_behind
from blindrepair.checks import check_misreadings, check_right
from blindrepair.errors import NoOrigin, Several, TooMany
from blindrepair.letters import check_text
from blindrepair.values import copied, equal

MOST_TEXTS = 500


class Origin:
    """A text and a row of steps that leads from it to another one."""

    def __init__(self, row, text):
        self.row = copied(row)
        self.text = copied(text)

    def __eq__(self, other):
        return isinstance(other, Origin) and equal((self.row, self.text), (other.row, other.text))


def origins(misreadings, text):
    """All texts of which a text can come, each once, as Origins in the order of their least rows."""
    check_misreadings(misreadings)
    check_text(text)
    for row, start in all_origins(misreadings, text):
        yield Origin(row, start)


def come_of(misreadings, text, origin):
    """The least row of steps that leads from one text to another one, None if there is none."""
    check_misreadings(misreadings)
    check_text(text)
    check_text(origin)
    for row, start in all_origins(misreadings, text):
        if start == origin:
            return row
    return None


def right_ones(misreadings, right, text):
    """The Origins whose texts are right."""
    check_misreadings(misreadings)
    check_right(right)
    check_text(text)
    return tuple([Origin(row, start) for row, start in all_origins(misreadings, text) if start in right])


def repaired(misreadings, right, text):
    """The one right text of which a text can come."""
    found = right_ones(misreadings, right, text)
    if not found:
        raise NoOrigin(text)
    if len(found) > 1:
        raise Several(found[0].text, found[1].text)
    return found[0].text


def all_origins(misreadings, text):
    """The texts of which a text can come, each once, in pairs of its least row and the text, in order.

    They are found row by row, the shortest ones first. A row that is least begins with any misreading, and what is
    behind this is least for the text there: so the rows of each length come of those that are shorter by one.
    """
    met = {text: True}
    found = [((), text)]
    level = [((), [text])]
    while level:
        longer = []
        for first, misreading in enumerate(misreadings):
            for row, ends in level:
                starts = new_starts(misreading, ends, met)
                if starts:
                    longer.append(((first,) + row, starts))
        for row, starts in longer:
            found.extend([(row, start) for start in starts])
        level = longer
    return found


def new_starts(misreading, ends, met):
    """The texts, in order, that have not been met and from which a misreading steps to one of some texts."""
    fresh = []
    for end in ends:
        starts = texts_behind(misreading, end, MOST_TEXTS)
        if starts is None:
            raise TooMany("texts", MOST_TEXTS)
        # A text that stays what it is has been met as an end, so it makes no step here.
        for start in starts:
            if start not in met:
                if len(met) == MOST_TEXTS:
                    raise TooMany("texts", MOST_TEXTS)
                met[start] = True
                fresh.append(start)
    return sorted(sorted([str(start) for start in fresh]), key=len)
