"""A look at the papers of decide: whether they are right."""

from blindrepair.checks import check_misreadings, check_right
from blindrepair.effects import MOST_EFFECTS, effect_of, unread
from blindrepair.letters import is_index
from blindrepair.verdicts import BEGINNING, Calm, Clash, Entry, is_clash, open_steps, triples_behind


def shows_verdict(misreadings, right, value):
    """Whether any value is a Calm or a Clash that is right."""
    check_misreadings(misreadings)
    check_right(right)
    if isinstance(value, Calm):
        return right_calm(misreadings, right, value.entries)
    return isinstance(value, Clash) and right_clash(misreadings, right, value.text, value.row)


def right_clash(misreadings, right, text, row):
    """Whether any two values are a right text and a row that turns it into another right text."""
    if text not in right or not isinstance(row, tuple):
        return False
    if not row or not all([is_index(index, len(misreadings)) for index in row]):
        return False
    # Images can have any length, so none is made: the effect of the row tells whether it is right and another text.
    effect = effect_of(misreadings, right, row)
    return text in effect and effect.changes(text)


def right_calm(misreadings, right, entries):
    """Whether any value is a tuple of entries that shows that there is no clash."""
    if not isinstance(entries, tuple) or not 1 <= len(entries) <= MOST_EFFECTS:
        return False
    if not are_entries(entries, len(misreadings)):
        return False
    found = told_effects(misreadings, right, entries)
    return all([right_nexts(misreadings, found, at, entry.nexts) and right_pairs(right, found[at], entry.pairs)
                for at, entry in enumerate(entries)])


def are_entries(entries, size):
    """Whether all are Entries, and each one but the first is made of one ahead of it."""
    for at, entry in enumerate(entries):
        if not isinstance(entry, Entry):
            return False
        if at == 0 and (entry.first is not None or entry.parent is not None):
            return False
        if at > 0 and not (is_index(entry.first, size) and is_index(entry.parent, at)):
            return False
    return True


def told_effects(misreadings, right, entries):
    """The effects of entries, each made of that of its parent."""
    found = [unread(misreadings, right)]
    for entry in entries[1:]:
        found.append(found[entry.parent].begun_by(misreadings[entry.first]))
    return found


def right_nexts(misreadings, found, at, nexts):
    """Whether any value tells for each misreading an effect that has it more at the beginning."""
    if not isinstance(nexts, tuple) or len(nexts) != len(misreadings):
        return False
    return all([is_index(number, len(found)) and found[number].told == found[at].begun_by(misreading).told
                for number, misreading in zip(nexts, misreadings)])


def right_pairs(right, effect, pairs):
    """Whether any value is a tuple of triples that no text leaves and that has no clash."""
    if not isinstance(pairs, tuple) or not all([is_triple(item, len(right)) for item in pairs]):
        return False
    known = {triple: True for triple in pairs}
    steps = open_steps(right, effect)
    return BEGINNING in known and all([is_closed(steps, known, triple) and not is_clash(right, triple)
                                       for triple in known])


def is_closed(steps, known, triple):
    """Whether all triples to which a letter leads from a triple are known."""
    return all([target in known for letter, target in triples_behind(steps, triple)])


def is_triple(value, size):
    """Whether any value is a tuple of two numbers of standings and a bool."""
    return (isinstance(value, tuple) and len(value) == 3 and is_index(value[0], size) and is_index(value[1], size)
            and isinstance(value[2], bool))
