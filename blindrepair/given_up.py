"""Which letters right texts can keep so that there is no clash."""

from blindrepair.checks import check_misreadings, check_right
from blindrepair.values import copied, equal
from blindrepair.verdicts import decide


class GivenUp:
    """The letters that right texts can keep, and a Clash for each other one."""

    def __init__(self, kept, clashes):
        self.kept = copied(kept)
        self.clashes = copied(clashes)

    def __eq__(self, other):
        return isinstance(other, GivenUp) and equal((self.kept, self.clashes), (other.kept, other.clashes))


def given_up(misreadings, right):
    """Goes through the letters of right texts and keeps each one with which there is still no clash."""
    check_misreadings(misreadings)
    check_right(right)
    kept = ""
    clashes = []
    for letter in right.letters:
        verdict = decide(misreadings, with_letters(right, kept + letter))
        if verdict:
            kept += letter
        else:
            clashes.append((letter, verdict))
    return GivenUp(kept, tuple(clashes))


def with_letters(right, letters):
    """The right texts that consist of some letters."""
    others = [letter for letter in right.letters if letter not in letters]
    return right.without(*others)
