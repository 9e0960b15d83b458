"""Checks of the arguments that many functions take."""

from blindrepair.errors import BadList, BadTable
from blindrepair.misreadings import Misreading

MOST_MISREADINGS = 4


def check_misreading(value):
    """Raises an error for what is no Misreading."""
    if not isinstance(value, Misreading):
        raise BadTable("misreading")


def check_misreadings(value):
    """Raises an error for what is no list of misreadings."""
    if not isinstance(value, (list, tuple)) or not 1 <= len(value) <= MOST_MISREADINGS:
        raise BadList(None)
    for at, item in enumerate(value):
        if not isinstance(item, Misreading):
            raise BadList(at)
