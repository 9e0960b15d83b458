"""Reading of texts of things: lists of misreadings, right sets, lists of replacements and tables."""

from blindrepair.checks import MOST_MISREADINGS
from blindrepair.codes import LONGEST_CODE, ReadTable, WriteTable, is_number
from blindrepair.errors import BadText
from blindrepair.fixers import MOST_PAIRS, Fixer, is_replacement, is_row
from blindrepair.letters import is_letter
from blindrepair.misreadings import Misreading
from blindrepair.rights import Right


def read_misreadings(text):
    """The list of Misreadings with this text."""
    lines = told_lines(text, ["misreadings"])
    found = []
    for at in range(1, len(lines)):
        if at > MOST_MISREADINGS:
            raise BadText(at, 0)
        found.append(misreading_in(lines[at], at))
    if not found:
        raise BadText(1, 0)
    return found


def read_right(text):
    """The Right with this text."""
    lines = told_lines(text, ["right"])
    if len(lines) == 1:
        raise BadText(1, 0)
    right = right_in(lines[1])
    if len(lines) > 2:
        raise BadText(2, 0)
    return right


def read_fixer(text):
    """The Fixer with this text."""
    lines = told_lines(text, ["fixer"])
    pairs = []
    row = ""
    for at in range(1, len(lines)):
        if at > MOST_PAIRS:
            raise BadText(at, 0)
        row, result = pair_in(lines[at].split(" "), at, row)
        pairs.append((row, result))
    if not pairs:
        raise BadText(1, 0)
    return Fixer(*pairs)


def read_table(text):
    """The WriteTable or the ReadTable with this text."""
    lines = told_lines(text, ["write", "read"])
    return write_table_in(lines) if lines[0] == "write" else read_table_in(lines)


READERS = {"misreadings": read_misreadings, "right": read_right, "fixer": read_fixer, "write": read_table,
           "read": read_table}


def read(text):
    """The thing of any kind with this text."""
    lines = told_lines(text, list(READERS))
    reading = READERS[lines[0]]
    return reading(text)


def told_lines(text, heads):
    """The lines of a text, the first of which is one of some heads."""
    if not isinstance(text, str):
        raise BadText(0, 0)
    lines = text.split("\n")
    words = lines[0].split(" ")
    if words[0] not in heads:
        raise BadText(0, 0)
    if len(words) > 1:
        raise BadText(0, 1)
    return lines


def misreading_in(line, at):
    """The Misreading that a line tells."""
    try:
        return Misreading.read(line)
    except BadText as error:
        raise BadText(at, error.word) from None


def right_in(line):
    """The Right that a line tells."""
    try:
        return Right.read(line)
    except BadText as error:
        raise BadText(1, error.word) from None


def pair_in(words, at, last):
    """The row and the result that the words of a line tell. The row is greater than the last one."""
    row = words[0]
    if not is_row(row) or row <= last:
        raise BadText(at, 0)
    if len(words) == 1 or not is_replacement((row, words[1])):
        raise BadText(at, 1)
    check_size(words, at, 2)
    return row, words[1]


def write_table_in(lines):
    """The WriteTable that the lines behind the first one tell."""
    codes = {}
    letter = ""
    for at in range(1, len(lines)):
        letter, code = code_in(lines[at].split(" "), at, letter)
        codes[letter] = code
    return WriteTable(codes)


def code_in(words, at, last):
    """The letter and its code that the words of a line tell. The letter is greater than the last one."""
    letter = words[0]
    if not is_letter(letter) or letter <= last:
        raise BadText(at, 0)
    for place, word in enumerate(words):
        if place > LONGEST_CODE or (place > 0 and not is_told_number(word)):
            raise BadText(at, place)
    if len(words) == 1:
        raise BadText(at, 1)
    return letter, tuple([int(word) for word in words[1:]])


def read_table_in(lines):
    """The ReadTable that the lines behind the first one tell."""
    signs = {}
    number = -1
    for at in range(1, len(lines)):
        number, letter = sign_in(lines[at].split(" "), at, number)
        signs[number] = letter
    return ReadTable(signs)


def sign_in(words, at, last):
    """The integer and its letter that the words of a line tell. The integer is greater than the last one."""
    if not is_told_number(words[0]) or int(words[0]) <= last:
        raise BadText(at, 0)
    if len(words) == 1 or not is_letter(words[1]):
        raise BadText(at, 1)
    check_size(words, at, 2)
    return int(words[0]), words[1]


def check_size(words, at, size):
    """Raises an error for a line with more words than so many."""
    if len(words) > size:
        raise BadText(at, size)


def is_told_number(word):
    """Whether a word is an integer of a code, written as str does."""
    return word.isascii() and word.isdigit() and len(word) < 4 and str(int(word)) == word and is_number(int(word))
