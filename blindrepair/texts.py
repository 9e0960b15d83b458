"""Texts of things: how lists of misreadings, right sets, lists of replacements and tables are written."""

from blindrepair.checks import check_misreadings, check_right
from blindrepair.codes import WriteTable


def write_misreadings(misreadings):
    """The text of a list of Misreadings."""
    check_misreadings(misreadings)
    return "\n".join(["misreadings"] + [str(misreading) for misreading in misreadings])


def write_right(right):
    """The text of a Right."""
    check_right(right)
    return "\n".join(["right", str(right)])


def write_fixer(fixer):
    """The text of a Fixer."""
    return "\n".join(["fixer"] + [f"{row} {result}" for row, result in fixer])


def write_table(table):
    """The text of a WriteTable or a ReadTable."""
    if isinstance(table, WriteTable):
        return "\n".join(["write"] + [code_line(letter, table[letter]) for letter in table])
    return "\n".join(["read"] + [f"{number} {table[number]}" for number in table])


def code_line(letter, code):
    """The line of a letter and its code."""
    return " ".join([letter] + [str(number) for number in code])
