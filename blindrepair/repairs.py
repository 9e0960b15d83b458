"""Repairs of texts, and the one that takes the steps of a misreading back."""

from blindrepair.backwards import by_first_letter, text_behind
from blindrepair.checks import check_right
from blindrepair.errors import NoImage, NoOrigin, Ring
from blindrepair.letters import check_text
from blindrepair.merging import check_one_to_one
from blindrepair.searches import least_right


class Repair:
    """The base of what is called with a text and returns the repaired one. It is not made itself."""

    def __call__(self, text):
        raise NotImplementedError("each repair has its own way")

    def spoiled(self, right):
        """The first right text that the repair does not leave as it is, None if it leaves each one."""
        raise NotImplementedError("each repair has its own way")


class Undoing(Repair):
    """Takes the steps of a misreading that is one to one back."""

    def __init__(self, misreading):
        check_one_to_one(misreading)
        self.misreading = misreading
        self._fitting = by_first_letter(misreading)

    def undo(self, text):
        """The one text from which a step leads to a text."""
        check_text(text)
        start = self.start_of(text)
        if start is None:
            raise NoImage()
        return start

    def start_of(self, text):
        """The text from which a step leads to a text, None if there is none."""
        start = text_behind(self._fitting, text)
        # A text that stays what it is makes no step.
        return None if start == text else start

    def chain(self, text):
        """A text, then the one from which a step leads to it, again and again, each text once."""
        check_text(text)
        reached = text
        while reached is not None:
            yield reached
            reached = self.start_of(reached)
            # No two steps lead to one text, so the first text that comes again is the first one of all.
            if reached == text:
                return

    def __call__(self, text):
        last = text
        for reached in self.chain(text):
            last = reached
        if self.start_of(last) is not None:
            raise Ring(text)
        return last

    def until(self, text, right):
        """The first text of the chain that is right."""
        check_text(text)
        check_right(right)
        for reached in self.chain(text):
            if reached in right:
                return reached
        raise NoOrigin(text)

    def spoiled(self, right):
        """The first right text into which a step leads, None if there is none."""
        check_right(right)
        return least_right(right, image_moves(self.misreading), ("", False), {("", True): True})


def image_moves(misreading):
    """The steps by which images are read letter by letter.

    A place is a pair: what is left of an image, and whether some image so far is another one than its letter.
    """
    moves = {}
    for changed in (False, True):
        begun = []
        for letter in misreading:
            image = misreading[letter]
            begun.append((image[0], (image[1:], changed or image != letter)))
            for at in range(1, len(image)):
                moves[(image[at:], changed)] = [(image[at], (image[at + 1:], changed))]
        moves[("", changed)] = begun
    return moves
