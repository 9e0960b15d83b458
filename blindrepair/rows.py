"""Rows of misreadings that happen to a text one behind the other."""

from blindrepair.checks import check_misreadings
from blindrepair.errors import BadRow, Barred
from blindrepair.letters import check_text, is_index


def along(misreadings, text, row):
    """The text behind a row, from a text."""
    check_misreadings(misreadings)
    check_text(text)
    check_row(row, len(misreadings))
    reached = text
    for at, index in enumerate(row):
        misreading = misreadings[index]
        if misreading.first_barred(reached) is not None:
            raise Barred(at)
        reached = misreading(reached)
    return reached


def check_row(row, size):
    """Raises an error for what is no tuple of indexes of a list with so many misreadings."""
    if not isinstance(row, tuple):
        raise BadRow(None)
    for at, index in enumerate(row):
        if not is_index(index, size):
            raise BadRow(at)
