"""Misreadings: what each letter becomes when a text is read with the wrong table."""

from blindrepair.errors import BadImage, BadLetter, BadNumber, BadTable, BadText, BadWord, Barred, TooMany, Unlike
from blindrepair.letters import LETTERS, bounded, check_text, is_between, is_letter, is_text

MOST_LETTERS = 12
LONGEST_TOLD = 4
LONGEST_JOINED = 64


class Joined:
    """Images that come of other Misreadings: they need no check, and can be longer than those of a caller."""

    def __init__(self, images):
        self.images = images


class Misreading:
    """A misreading: an image for each of some letters. It bars all other letters."""

    def __init__(self, images, keeps=""):
        told = images.images if isinstance(images, Joined) else told_images(images, keeps)
        if len(told) > MOST_LETTERS:
            raise TooMany("letters", MOST_LETTERS)
        self._letters = tuple([letter for letter in LETTERS if letter in told])
        self._images = {letter: told[letter] for letter in self._letters}
        self.changed = tuple([letter for letter in self._letters if told[letter] != letter])

    def __contains__(self, x):
        return is_letter(x) and x in self._images

    def __len__(self):
        return len(self._letters)

    def __iter__(self):
        return iter(self._letters)

    def __getitem__(self, at):
        if not is_letter(at):
            raise BadLetter(at)
        if at not in self._images:
            raise Barred(0)
        return self._images[at]

    def __call__(self, text):
        check_text(text)
        at = self.first_barred(text)
        if at is not None:
            raise Barred(at)
        return bounded(self.image(text))

    def step(self, text):
        """The text to which a step leads, None if there is none."""
        check_text(text)
        if self.first_barred(text) is not None:
            return None
        image = bounded(self.image(text))
        return None if image == text else image

    def first_barred(self, text):
        """The index of the first letter of a text that has no image, None if each one has."""
        for at, letter in enumerate(text):
            if letter not in self._images:
                return at
        return None

    def image(self, text):
        """The image of a text without barred letters, at any length."""
        return "".join([self._images[letter] for letter in text])

    def __rshift__(self, other):
        check_other(other)
        images = {}
        for letter in self._letters:
            middle = self._images[letter]
            if other.first_barred(middle) is None:
                images[letter] = other.image(middle)
                if len(images[letter]) > LONGEST_JOINED:
                    raise TooMany("image", LONGEST_JOINED)
        return Misreading(Joined(images))

    def __pow__(self, other):
        if not is_between(other, 1, 99):
            raise BadNumber(other)
        made = self
        for _ in range(other - 1):
            made = made >> self
        return made

    def __or__(self, other):
        check_other(other)
        for letter in self._letters:
            if letter in other and other[letter] != self._images[letter]:
                raise Unlike(letter)
        images = {letter: other[letter] for letter in other}
        return Misreading(Joined({**self._images, **images}))

    def __le__(self, other):
        check_other(other)
        return all([letter in other and other[letter] == self._images[letter] for letter in self._letters])

    def __eq__(self, other):
        return isinstance(other, Misreading) and self._images == other._images

    def only(self, letters):
        """The Misreading with the images of those of its letters that stand in a text."""
        check_text(letters)
        return Misreading(Joined({letter: self._images[letter] for letter in self._letters if letter in letters}))

    @staticmethod
    def same(letters):
        """The Misreading that leaves each letter of a text as it is, and bars all others."""
        return Misreading({}, letters)

    def __str__(self):
        if not self._letters:
            return "-"
        return " ".join([f"{letter}:{self._images[letter]}" for letter in self._letters])

    @classmethod
    def read(cls, text):
        """The Misreading with this str."""
        if not isinstance(text, str):
            raise BadText(0, 0)
        words = text.split(" ")
        if words[0] == "-":
            if len(words) > 1:
                raise BadText(0, 1)
            return cls({})
        for at, word in enumerate(words):
            if at == MOST_LETTERS or not is_told(word) or (at > 0 and word[0] <= words[at - 1][0]):
                raise BadText(0, at)
        return cls({each[0]: each[2:] for each in words})


def is_image(value):
    """Whether any value is an image that a caller can tell."""
    return is_text(value) and 1 <= len(value) <= LONGEST_TOLD


def is_told(word):
    """Whether a word is a letter, a colon and an image."""
    return is_letter(word[:1]) and word[1:2] == ":" and is_image(word[2:])


def told_images(images, keeps):
    """The images that the arguments of a Misreading tell."""
    if not isinstance(images, dict):
        raise BadTable("images")
    for key in images:
        if not is_letter(key):
            raise BadLetter(key)
    for letter in LETTERS:
        if letter in images and not is_image(images[letter]):
            raise BadImage(letter)
    if not is_text(keeps):
        raise BadWord(keeps)
    kept = {letter: letter for letter in keeps}
    return {**kept, **images}


def check_other(other):
    """Raises an error for what is no Misreading on the right of an operator."""
    if not isinstance(other, Misreading):
        raise BadTable("other")
