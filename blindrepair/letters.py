"""What letters, texts and integers are."""

from blindrepair.errors import BadWord, TooMany

LETTERS = "abcdefghijklmnopqrstuvwxyz"
LONGEST = 2000
LONGEST_NAME = 8


def is_letter(value):
    """Whether any value is a letter."""
    return isinstance(value, str) and len(value) == 1 and value in LETTERS


def is_text(value):
    """Whether any value is a text."""
    return isinstance(value, str) and len(value) <= LONGEST and all_letters(value)


def all_letters(string):
    """Whether a string has letters alone: of such a one nothing is left when letters are stripped."""
    return not string.strip(LETTERS)


def is_name(value):
    """Whether any value is a word that can be a name."""
    return is_text(value) and 1 <= len(value) <= LONGEST_NAME


def is_integer(value):
    """Whether any value is an integer. (For Python bools are integers, too.)"""
    return isinstance(value, int) and not isinstance(value, bool)


def is_between(value, least, most):
    """Whether any value is an integer from least to most."""
    return is_integer(value) and least <= value <= most


def is_index(value, size):
    """Whether any value is the index of an item of something with so many items."""
    return is_between(value, 0, size - 1)


def check_text(value):
    """Raises an error for what is no text."""
    if not is_text(value):
        raise BadWord(value)


def bounded(string):
    """The string itself, unless it has too many letters for a text."""
    if len(string) > LONGEST:
        raise TooMany("signs", LONGEST)
    return string
