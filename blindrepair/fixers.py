"""Lists of replacements, and whether they repair what a misreading makes of right texts."""

from blindrepair.checks import check_misreading, check_right
from blindrepair.errors import BadFixer, BadImage, Ring, TooMany
from blindrepair.letters import check_text, is_text
from blindrepair.merging import check_one_to_one
from blindrepair.repairs import Repair
from blindrepair.searches import least_right
from blindrepair.strays import first_stray

MOST_PAIRS = 12
LONGEST_ROW = 8


class Fixer(Repair):
    """A list of replacements: rows of letters, each with the result that takes its place."""

    def __init__(self, *pairs):
        check_pairs(pairs)
        results = {row: result for row, result in pairs}
        self.pairs = tuple([(row, results[row]) for row in sorted([str(row) for row in results])])
        self._results = results
        self._fitting = by_beginning(results)

    @classmethod
    def of(cls, misreading):
        """The Fixer that puts each letter that a misreading changes in the place of its image."""
        check_misreading(misreading)
        pairs = changed_pairs(misreading)
        return cls(*pairs)

    def __len__(self):
        return len(self.pairs)

    def __iter__(self):
        return iter(self.pairs)

    def __eq__(self, other):
        return isinstance(other, Fixer) and self.pairs == other.pairs

    def places(self, text):
        """The pairs of a place and the row that is replaced there, in order."""
        check_text(text)
        found = []
        at = 0
        while at < len(text):
            row = longest_row(self._fitting, text, at)
            if row is not None:
                found.append((at, row))
            at += 1 if row is None else len(row)
        return tuple(found)

    def once(self, text):
        """The text with the results in the places of their rows."""
        parts = []
        done = 0
        for at, row in self.places(text):
            parts.extend([text[done:at], self._results[row]])
            done = at + len(row)
        return "".join(parts) + text[done:]

    def __call__(self, text):
        reached = text
        mark = text
        steps = 0
        wait = 1
        while True:
            ahead = reached
            reached = self.once(ahead)
            if reached == ahead:
                return reached
            if reached == mark:
                raise Ring(text)
            steps += 1
            # The mark moves on behind 1, 2, 4 and so on steps, so that it comes to stand on any ring.
            if steps == wait:
                mark = reached
                wait = 2 * wait
                steps = 0

    def spoiled(self, right):
        """The first right text in which one of the rows stands, None if there is none."""
        check_right(right)
        return least_right(right, row_moves(self._results, right.letters), None, {"": True})

    def takes_back(self, misreading, text):
        """Whether just the images of changed letters are replaced in the image of a text, each one by its letter."""
        check_misreading(misreading)
        image = misreading(text)
        expected = []
        at = 0
        for letter in text:
            if letter in misreading.changed:
                expected.append((at, misreading[letter]))
            at += len(misreading[letter])
        return self.places(image) == tuple(expected) and all(
            [self._results[misreading[letter]] == letter for letter in text if letter in misreading.changed])

    def stray(self, misreading, right):
        """The least number of misreadings, and the first right text, behind which the next one is not taken back."""
        check_misreading(misreading)
        check_right(right)
        check_one_to_one(misreading)
        return first_stray(self._results, misreading, right)


def changed_pairs(misreading):
    """The pairs of image and letter for the letters that a misreading changes."""
    letters = {}
    for letter in misreading.changed:
        image = misreading[letter]
        if len(image) > LONGEST_ROW or image in letters:
            raise BadImage(letter)
        letters[image] = letter
    return [(image, letters[image]) for image in letters]


def check_pairs(pairs):
    """Raises an error for what cannot be the arguments of a Fixer."""
    if not pairs:
        raise BadFixer(None)
    rows = {}
    for at, pair in enumerate(pairs):
        if not is_replacement(pair) or pair[0] in rows:
            raise BadFixer(at)
        rows[pair[0]] = True
    if len(pairs) > MOST_PAIRS:
        raise TooMany("pairs", MOST_PAIRS)


def is_replacement(value):
    """Whether any value is a tuple of a row and a result that can take its place."""
    if not isinstance(value, tuple) or len(value) != 2:
        return False
    row, result = value
    return is_row(row) and is_text(result) and 1 <= len(result) <= len(row) and result != row


def is_row(value):
    """Whether any value is a text of letters that can be replaced."""
    return is_text(value) and 1 <= len(value) <= LONGEST_ROW


def by_beginning(rows):
    """The rows in lists by their first letters, the longest ones first."""
    fitting = {}
    for size in range(LONGEST_ROW, 0, -1):
        for row in rows:
            if len(row) == size:
                fitting.setdefault(row[0], []).append(row)
    return fitting


def longest_row(fitting, text, at):
    """The longest row that stands at a place of a text, None if none does."""
    for row in fitting.get(text[at], []):
        if text.startswith(row, at):
            return row
    return None


def row_moves(rows, letters):
    """The steps by which texts over letters are read until a row has stood in them.

    A place is what is left of a row that has begun, or None while no row has.
    """
    moves = {None: [(letter, None) for letter in letters], "": [(letter, "") for letter in letters]}
    for row in rows:
        moves[None].append((row[0], row[1:]))
        for at in range(1, len(row)):
            moves[row[at:]] = [(row[at], row[at + 1:])]
    return moves
