"""Checks of the arguments that many functions take."""

from blindrepair.errors import BadList, BadRight, BadTable
from blindrepair.misreadings import Misreading
from blindrepair.rights import Right

MOST_MISREADINGS = 4


def check_misreading(value):
    """Raises an error for what is no Misreading."""
    if not isinstance(value, Misreading):
        raise BadTable("misreading")


def check_misreadings(value):
    """Raises an error for what is no list of misreadings."""
    if not isinstance(value, (list, tuple)) or not 1 <= len(value) <= MOST_MISREADINGS:
        raise BadList(None)
    for at, item in enumerate(value):
        if not isinstance(item, Misreading):
            raise BadList(at)


def check_right(value):
    """Raises an error for what is no Right."""
    if not isinstance(value, Right):
        raise BadRight("right")
