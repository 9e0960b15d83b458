"""Effects: what rows of misreadings do to letters, as far as a right set can tell."""

from blindrepair.checks import check_misreading, check_misreadings, check_right
from blindrepair.errors import BadLetter, BadTable, Barred, TooMany
from blindrepair.letters import LETTERS, check_text, is_letter, is_text
from blindrepair.rows import check_row

MOST_EFFECTS = 300


class Effect:
    """The effect of a row.

    For each letter it has None if the row bars it, otherwise a pair: for each standing where the image leads from it,
    and the letter that the image is, None if it has more letters.
    """

    def __init__(self, right, images):
        self.letters = tuple([letter for letter in LETTERS if letter in images])
        self.told = tuple([images[letter] for letter in self.letters])
        self._images = images
        self._right = right

    def __iter__(self):
        return iter(self.letters)

    def __getitem__(self, at):
        check_letter(at, self._images)
        image = self._images[at]
        return None if image is None else image[0]

    def single(self, letter):
        """The letter that the image of a letter is, None if it is barred or has more letters."""
        check_letter(letter, self._images)
        image = self._images[letter]
        return None if image is None else image[1]

    def ahead(self, misreading):
        """The effect of the row with this misreading more at its beginning."""
        check_misreading(misreading)
        if not all([letter in self._images for letter in letters_of(misreading)]):
            raise BadTable("letters")
        return self.begun_by(misreading)

    def begun_by(self, misreading):
        """The effect with a misreading ahead all of whose letters are known."""
        words = {letter: misreading[letter] for letter in misreading}
        return Effect(self._right, {letter: joined(self._images, words.get(letter)) for letter in self.letters})

    def behind(self, text, start=0):
        """The standing to which the image of a text leads from a standing, None for nowhere."""
        check_open(self._images, text)
        return led(self._images, text, start)

    def changes(self, text):
        """Whether the image of a text is another text."""
        check_open(self._images, text)
        # No image is empty, so only letters that stay what they are leave a text as it is.
        return any([self._images[letter][1] != letter for letter in text])

    def __contains__(self, x):
        if not is_text(x) or closed_at(self._images, x) is not None:
            return False
        at = led(self._images, x, 0)
        return at is not None and self._right.standings[at][1]

    def __eq__(self, other):
        return (isinstance(other, Effect) and self._right == other._right and self.letters == other.letters
                and self.told == other.told)


class Search:
    """The effects of all rows with their least rows, found in the order of these rows, and only when asked for.

    The least row of an effect is one misreading ahead of the least row of another effect, its parent: a lesser row
    with the effect of the parent would make a lesser row here, too.
    """

    def __init__(self, misreadings, right):
        start = unread(misreadings, right)
        self.misreadings = tuple(misreadings)
        self.found = [start]
        self.rows = [()]
        self.beginnings = [(None, None)]
        self.numbers = {start.told: 0}
        self.nexts = {}
        self.level = [0]
        self.more = False

    def reaches(self, number):
        """Whether there is an effect with this number. No more are kept than can be."""
        while len(self.found) <= number and self.level:
            self.level = self.next_level()
        return number < len(self.found)

    def next_level(self):
        """Finds the effects of the rows that are longer by one than the last ones: their numbers."""
        level = []
        for first, misreading in enumerate(self.misreadings):
            for parent in self.level:
                effect = self.found[parent].begun_by(misreading)
                if effect.told not in self.numbers:
                    if len(self.found) == MOST_EFFECTS:
                        self.more = True
                        return []
                    level.append(len(self.found))
                    self.keep(effect, first, parent)
                self.nexts[(parent, first)] = self.numbers[effect.told]
        return level

    def keep(self, effect, first, parent):
        """Keeps a new effect, of the row of its parent with a misreading ahead."""
        self.numbers[effect.told] = len(self.found)
        self.found.append(effect)
        self.rows.append((first,) + self.rows[parent])
        self.beginnings.append((first, parent))

    def finish(self):
        """Finds all effects. Raises an error if there are too many."""
        while self.level:
            self.level = self.next_level()
        if self.more:
            raise TooMany("effects", MOST_EFFECTS)


def effect_of(misreadings, right, row):
    """The Effect of a row."""
    check_misreadings(misreadings)
    check_right(right)
    check_row(row, len(misreadings))
    effect = unread(misreadings, right)
    for index in row[::-1]:
        effect = effect.begun_by(misreadings[index])
    return effect


def effects(misreadings, right):
    """All effects, each once, in pairs of the least row and the effect, in the order of these rows."""
    check_misreadings(misreadings)
    check_right(right)
    search = Search(misreadings, right)
    search.finish()
    for row, effect in zip(search.rows, search.found):
        yield row, effect


def unread(misreadings, right):
    """The effect of the empty row, with the letters of some misreadings and of a right set."""
    known = {letter: True for letter in right.letters}
    for misreading in misreadings:
        for letter in letters_of(misreading):
            known[letter] = True
    return Effect(right, {letter: (led_from_all(right, letter), letter) for letter in known})


def letters_of(misreading):
    """All letters that have an image, and all that stand in images, perhaps several times."""
    return "".join([letter + misreading[letter] for letter in misreading])


def led_from_all(right, letter):
    """Where a letter leads from each standing of a right set."""
    return tuple([right[at, letter] for at in range(len(right))])


def joined(images, word):
    """What an effect has for a word, as for a letter; None for None, which stands for a barred letter."""
    if word is None or closed_at(images, word) is not None:
        return None
    leads, single = images[word[0]]
    for letter in word[1:]:
        more = images[letter][0]
        leads = tuple([None if at is None else more[at] for at in leads])
    return (leads, single if len(word) == 1 else None)


def closed_at(images, text):
    """The index of the first letter of a text that is barred or not known, None if there is none."""
    for at, letter in enumerate(text):
        if images.get(letter) is None:
            return at
    return None


def led(images, text, start):
    """The standing to which the image of a text without barred letters leads from a standing, None for nowhere."""
    at = start
    for letter in text:
        if at is None:
            return None
        at = images[letter][0][at]
    return at


def check_letter(value, images):
    """Raises an error for what is none of the letters of an effect."""
    if not is_letter(value) or value not in images:
        raise BadLetter(value)


def check_open(images, text):
    """Raises an error for what is no text, or a text with a letter that is barred or not known."""
    check_text(text)
    at = closed_at(images, text)
    if at is not None:
        raise Barred(at)
