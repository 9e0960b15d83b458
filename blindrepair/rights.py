"""Right sets: sets of texts that a machine with at most eight standings tells."""

from blindrepair.errors import BadLetter, BadNumber, BadRight, BadText, BadWord
from blindrepair.letters import LETTERS, check_text, is_between, is_index, is_letter, is_text
from blindrepair.machines import (begun_at, behind_text, in_order, paired, reduced, told_by_avoiding, told_by_words,
                                  without_letters)

DIGITS = "0123456789"
MOST_ARGUMENTS = 40
LONGEST_LISTED = 40


class Right:
    """A right set, kept as its reduced machine."""

    MOST = 8

    def __init__(self, *standings):
        check_standings(standings)
        self._machine = reduced(standings, Right.MOST)
        self.standings = tuple([(tuple(in_order(steps)), ends) for steps, ends in self._machine])
        self.letters = "".join([letter for letter in LETTERS if is_used(self._machine, letter)])

    @staticmethod
    def words(*words):
        """The set of these texts."""
        check_texts(words)
        return right_of(told_by_words(words))

    @staticmethod
    def over(letters):
        """The set of all texts over the letters of a text."""
        check_text(letters)
        return Right(({letter: 0 for letter in letters}, True))

    @staticmethod
    def avoiding(letters, *words):
        """The set of all texts over the letters of a text in which none of the words stands."""
        check_text(letters)
        for word in words:
            if not is_text(word) or word == "":
                raise BadWord(word)
        return right_of(told_by_avoiding(letters, words))

    def __len__(self):
        return len(self.standings)

    def __bool__(self):
        return any([ends for steps, ends in self.standings])

    def __contains__(self, x):
        return is_text(x) and self.ends_behind(x)

    def ends_behind(self, text):
        """Whether a text is right."""
        at = behind(self._machine, text)
        return at is not None and self.standings[at][1]

    def __iter__(self):
        raise TypeError("the texts of a Right are listed by its method texts")

    def __getitem__(self, at):
        if not isinstance(at, tuple) or len(at) != 2 or not is_index(at[0], len(self.standings)):
            raise BadRight("standing")
        number, letter = at
        if not is_letter(letter):
            raise BadLetter(letter)
        return self._machine[number][0].get(letter)

    def __and__(self, other):
        check_other(other)
        return right_of(paired(self._machine, other._machine, "&"))

    def __or__(self, other):
        check_other(other)
        return right_of(paired(self._machine, other._machine, "|"))

    def __sub__(self, other):
        check_other(other)
        return right_of(paired(self._machine, other._machine, "-"))

    def __le__(self, other):
        check_other(other)
        return not any([ends for steps, ends in paired(self._machine, other._machine, "-")])

    def __eq__(self, other):
        return isinstance(other, Right) and self.standings == other.standings

    def after(self, text):
        """The set of all texts that are right behind a text."""
        check_text(text)
        at = behind(self._machine, text)
        return right_of([({}, False)] if at is None else begun_at(self._machine, at))

    def ahead(self, text):
        """The set of the right texts with a text ahead of each."""
        check_text(text)
        return right_of(behind_text(self._machine, text))

    def without(self, *letters):
        """The set of the right texts without some letters."""
        for letter in letters:
            if not is_letter(letter):
                raise BadLetter(letter)
        return right_of(without_letters(self._machine, letters))

    def least(self):
        """The first right text, the shortest ones first; None if there is none."""
        # Standings are numbered as they are met, so the first end is come to by the first text.
        ways = {0: ""}
        for at, (steps, ends) in enumerate(self.standings):
            if ends:
                return ways[at]
            for letter, to in steps:
                if to not in ways:
                    ways[to] = ways[at] + letter
        return None

    def texts(self, most):
        """All right texts of at most so many letters, the shortest ones first."""
        check_size(most)
        counts = counts_to(self._machine, most)
        for size in range(most + 1):
            # Only what still leads to an end in just so many steps is followed, so each way gives a text.
            ways = [("", 0)]
            while ways:
                text, at = ways.pop()
                left = size - len(text)
                if counts[left][at] and left == 0:
                    yield text
                elif counts[left][at]:
                    ways.extend([(text + letter, to) for letter, to in reversed(list(self.standings[at][0]))])

    def count(self, n):
        """How many right texts have so many letters."""
        check_size(n)
        return counts_to(self._machine, n)[n][0]

    def __str__(self):
        return " / ".join([" ".join(words_of(steps, ends)) for steps, ends in self.standings])

    @classmethod
    def read(cls, text):
        """The Right with this str."""
        if not isinstance(text, str):
            raise BadText(0, 0)
        rows = told_standings(text.split(" "), Right.MOST)
        made = cls(*rows)
        if str(made) != text:
            raise BadText(0, 0)
        return made


def right_of(machine):
    """The Right of a machine of any size."""
    rows = reduced(machine, Right.MOST)
    return Right(*rows)


def behind(machine, text):
    """The standing to which a text leads from the beginning, None for nowhere."""
    at = 0
    for letter in text:
        at = machine[at][0].get(letter)
        if at is None:
            return None
    return at


def is_used(machine, letter):
    """Whether some step is by this letter."""
    return any([letter in steps for steps, ends in machine])


def counts_to(machine, most):
    """For each number up to most and each standing, how many texts of so many letters lead from it to an end."""
    counts = [[1 if ends else 0 for steps, ends in machine]]
    for _ in range(most):
        last = counts[-1]
        counts.append([sum([last[to] for to in steps.values()]) for steps, ends in machine])
    return counts


def words_of(steps, ends):
    """The words that tell a standing."""
    words = [f"{letter}>{to}" for letter, to in steps]
    if ends:
        return ["end"] + words
    return words or ["-"]


def told_standings(words, most):
    """The arguments of the Right that words tell."""
    rows = []
    told = []
    for at, word in enumerate(words):
        if word == "/" and told and len(rows) < most - 1:
            rows.append(standing_of(told))
            told = []
        elif fits(word, told, most):
            told.append(word)
        else:
            raise BadText(0, at)
    rows.append(standing_of(told))
    if not told or not all([to < len(rows) for steps, ends in rows for to in steps.values()]):
        raise BadText(0, len(words))
    return rows


def fits(word, told, most):
    """Whether a word, no slash, can stand behind the words of a standing."""
    if word in ("-", "end"):
        return not told
    if len(word) != 3 or not is_letter(word[0]) or word[1] != ">" or word[2] not in DIGITS[:most]:
        return False
    return not told or told[-1] == "end" or (told[-1] != "-" and told[-1][0] < word[0])


def standing_of(told):
    """The pair that the words of a standing tell."""
    return ({word[0]: int(word[2]) for word in told if word not in ("-", "end")}, "end" in told)


def check_texts(words):
    """Raises an error for the first value that is no text."""
    for word in words:
        check_text(word)


def check_size(value):
    """Raises an error for what is no number of letters of listed texts."""
    if not is_between(value, 0, LONGEST_LISTED):
        raise BadNumber(value)


def check_other(other):
    """Raises an error for what is no Right on the right of an operator."""
    if not isinstance(other, Right):
        raise BadRight("other")


def check_standings(standings):
    """Raises an error for what cannot be the arguments of a Right."""
    size = len(standings)
    if not 1 <= size <= MOST_ARGUMENTS:
        raise BadRight(None)
    for at, standing in enumerate(standings):
        if not is_standing(standing, size):
            raise BadRight(at)


def is_standing(value, size):
    """Whether any value is a pair of steps to numbers below size and of a bool."""
    if not isinstance(value, tuple) or len(value) != 2:
        return False
    steps, ends = value
    return (isinstance(steps, dict) and isinstance(ends, bool)
            and all([is_letter(letter) and is_index(steps[letter], size) for letter in steps]))
