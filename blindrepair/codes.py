"""Tables of signs: how letters are written, how integers are read, and which misreading the two make."""

from blindrepair.checks import check_misreading
from blindrepair.errors import BadCode, BadImage, BadLetter, BadTable, Barred, NoSign, Unlike, Unread
from blindrepair.letters import LETTERS, bounded, check_text, is_between, is_integer, is_letter
from blindrepair.misreadings import Misreading

NUMBERS = 256
LONGEST_CODE = 4


class WriteTable:
    """How letters are written: a code for each of some letters."""

    def __init__(self, codes):
        check_codes(codes)
        self._codes = {letter: codes[letter] for letter in LETTERS if letter in codes}

    def __contains__(self, x):
        return is_letter(x) and x in self._codes

    def __len__(self):
        return len(self._codes)

    def __iter__(self):
        return iter(self._codes)

    def __getitem__(self, at):
        if not is_letter(at):
            raise BadLetter(at)
        if at not in self._codes:
            raise NoSign(at)
        return self._codes[at]

    def __call__(self, text):
        check_text(text)
        for letter in text:
            if letter not in self._codes:
                raise NoSign(letter)
        return tuple([number for letter in text for number in self._codes[letter]])

    def __or__(self, other):
        if not isinstance(other, WriteTable):
            raise BadTable("other")
        for letter in self._codes:
            if letter in other._codes and other._codes[letter] != self._codes[letter]:
                raise Unlike(letter)
        return WriteTable({**self._codes, **other._codes})

    def __eq__(self, other):
        return isinstance(other, WriteTable) and self._codes == other._codes


class ReadTable:
    """How integers are read, each by itself: a letter for each of some integers."""

    def __init__(self, signs):
        check_signs(signs)
        self._signs = {number: signs[number] for number in range(NUMBERS) if number in signs}

    def __contains__(self, x):
        return is_integer(x) and x in self._signs

    def __len__(self):
        return len(self._signs)

    def __iter__(self):
        return iter(self._signs)

    def __getitem__(self, at):
        if not is_integer(at) or at not in self._signs:
            raise BadCode(at)
        return self._signs[at]

    def __call__(self, numbers):
        check_numbers(numbers)
        at = first_unread(numbers, self)
        if at is not None:
            raise Unread(at)
        return bounded("".join([self._signs[number] for number in numbers]))

    def __invert__(self):
        codes = {}
        for number, letter in self._signs.items():
            if letter not in codes:
                codes[letter] = (number,)
        return WriteTable(codes)

    def __eq__(self, other):
        return isinstance(other, ReadTable) and self._signs == other._signs


def misread_by(write, read):
    """The Misreading of what is written with one table and read with another one."""
    check_write(write)
    check_read(read)
    return Misreading({letter: read(write[letter]) for letter in write if first_unread(write[letter], read) is None})


def reread(text, write, read):
    """A text, written with one table and read with another one."""
    check_text(text)
    check_write(write)
    check_read(read)
    for at, letter in enumerate(text):
        if letter not in write:
            raise Barred(at) from NoSign(letter)
        lacking = first_unread(write[letter], read)
        if lacking is not None:
            raise Barred(at) from Unread(lacking)
    return read(write(text))


def written(misreading, read):
    """The WriteTable with which a reader makes the misreading."""
    check_misreading(misreading)
    check_read(read)
    signs = ~read
    codes = {}
    for letter in misreading:
        image = misreading[letter]
        if len(image) > LONGEST_CODE:
            raise BadImage(letter)
        codes[letter] = signs(image)
    return WriteTable(codes)


def first_unread(numbers, read):
    """The index of the first integer that a ReadTable lacks, None if it has each one."""
    for at, number in enumerate(numbers):
        if number not in read:
            return at
    return None


def is_number(value):
    """Whether any value is an integer of which codes can consist."""
    return is_between(value, 0, NUMBERS - 1)


def is_code(value):
    """Whether any value is a code."""
    return (isinstance(value, tuple) and 1 <= len(value) <= LONGEST_CODE
            and all([is_number(number) for number in value]))


def check_codes(codes):
    """Raises an error for what tells no codes of letters."""
    if not isinstance(codes, dict):
        raise BadTable("codes")
    for key in codes:
        if not is_letter(key):
            raise BadLetter(key)
    for letter in LETTERS:
        if letter in codes and not is_code(codes[letter]):
            raise BadCode(codes[letter])


def check_signs(signs):
    """Raises an error for what tells no letters of integers."""
    if not isinstance(signs, dict):
        raise BadTable("signs")
    for key in signs:
        if not is_number(key):
            raise BadCode(key)
    for number in range(NUMBERS):
        if number in signs and not is_letter(signs[number]):
            raise BadLetter(signs[number])


def check_numbers(numbers):
    """Raises an error for what is no list or tuple of integers that can be read."""
    if not isinstance(numbers, (list, tuple)):
        raise BadTable("numbers")
    for number in numbers:
        if not is_number(number):
            raise BadCode(number)


def check_write(value):
    """Raises an error for what is no WriteTable."""
    if not isinstance(value, WriteTable):
        raise BadTable("write")


def check_read(value):
    """Raises an error for what is no ReadTable."""
    if not isinstance(value, ReadTable):
        raise BadTable("read")
