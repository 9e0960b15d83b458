"""Marks: texts ahead of all texts over some letters that make these safe from clashes."""

from blindrepair.checks import check_misreadings
from blindrepair.errors import BadNumber
from blindrepair.letters import LETTERS, check_text, is_between, is_text
from blindrepair.rights import Right
from blindrepair.verdicts import decide

LONGEST_FOUND = 3
LONGEST_SHOWN = 6


def least_mark(misreadings, letters, most):
    """The first mark of at most so many letters with which there is no clash, None if there is none."""
    check_misreadings(misreadings)
    check_text(letters)
    if not is_between(most, 0, LONGEST_FOUND):
        raise BadNumber(most)
    usable = letters_of_all(misreadings)
    marks = [""]
    for _ in range(most + 1):
        for mark in marks:
            if is_safe(misreadings, letters, mark):
                return mark
        marks = [mark + letter for mark in marks for letter in usable]
    return None


def shows_mark(misreadings, letters, mark):
    """Whether any value is a mark with which there is no clash."""
    check_misreadings(misreadings)
    check_text(letters)
    if not is_text(mark) or len(mark) > LONGEST_SHOWN:
        return False
    usable = letters_of_all(misreadings)
    return all([letter in usable for letter in mark]) and is_safe(misreadings, letters, mark)


def letters_of_all(misreadings):
    """The letters with an image by each of some misreadings, ascending."""
    return [letter for letter in LETTERS if all([letter in misreading for misreading in misreadings])]


def is_safe(misreadings, letters, mark):
    """Whether there is no clash with the set of all texts over letters with a mark ahead."""
    right = Right.over(letters).ahead(mark)
    return bool(decide(misreadings, right))
