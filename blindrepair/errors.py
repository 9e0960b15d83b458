"""The errors of this package: all of them stand directly below RepairError."""

from blindrepair.values import copied


class RepairError(ValueError):
    """The base of all errors of this package."""


class BadLetter(RepairError):
    """A value that stands for a letter is none."""

    def __init__(self, value):
        RepairError.__init__(self, f"{value!r} is no letter")
        self.value = copied(value)


class BadWord(RepairError):
    """A value that stands for a text is none, or one that cannot stand here."""

    def __init__(self, value):
        RepairError.__init__(self, f"{value!r} is no text that can stand here")
        self.value = copied(value)


class BadImage(RepairError):
    """The image of a letter cannot stand here."""

    def __init__(self, letter):
        RepairError.__init__(self, f"the image of {letter!r} cannot stand here")
        self.letter = copied(letter)


class BadNumber(RepairError):
    """A value is no number that can stand here."""

    def __init__(self, value):
        RepairError.__init__(self, f"{value!r} is no number that can stand here")
        self.value = copied(value)


class BadTable(RepairError):
    """An argument is not the table, the misreading or the numbers that it should be."""

    def __init__(self, part):
        RepairError.__init__(self, f"{part!r} is not of the kind that it should be")
        self.part = copied(part)


class BadCode(RepairError):
    """A value is no code, or no integer of a code."""

    def __init__(self, value):
        RepairError.__init__(self, f"{value!r} is no code, or no integer of one")
        self.value = copied(value)


class NoSign(RepairError):
    """A table has no code for a letter."""

    def __init__(self, letter):
        RepairError.__init__(self, f"there is no code for {letter!r}")
        self.letter = copied(letter)


class Unread(RepairError):
    """A table cannot read the integer at an index."""

    def __init__(self, at):
        RepairError.__init__(self, f"the integer at {at!r} cannot be read")
        self.at = copied(at)


class Barred(RepairError):
    """A misreading cannot happen, because of what stands at an index."""

    def __init__(self, at):
        RepairError.__init__(self, f"the misreading cannot happen, because of what stands at {at!r}")
        self.at = copied(at)


class NoImage(RepairError):
    """A text is not the image of another one."""

    def __init__(self):
        RepairError.__init__(self, "no step leads to this text")


class Merging(RepairError):
    """A misreading makes one text of two."""

    def __init__(self, one, other):
        RepairError.__init__(self, f"{one!r} and {other!r} become the same text")
        self.one = copied(one)
        self.other = copied(other)


class Unlike(RepairError):
    """Two tables tell unlike things of a letter."""

    def __init__(self, letter):
        RepairError.__init__(self, f"{letter!r} is told in two unlike ways")
        self.letter = copied(letter)


class BadRight(RepairError):
    """An argument, or a part of it, does not tell a right set."""

    def __init__(self, part):
        RepairError.__init__(self, f"no right set is told: {part!r}")
        self.part = copied(part)


class BadList(RepairError):
    """An argument is no list of misreadings."""

    def __init__(self, at):
        RepairError.__init__(self, f"this is no list of misreadings: {at!r}")
        self.at = copied(at)


class BadRow(RepairError):
    """An argument is no row of misreadings."""

    def __init__(self, at):
        RepairError.__init__(self, f"this is no row of misreadings: {at!r}")
        self.at = copied(at)


class NoOrigin(RepairError):
    """A text comes of no right text."""

    def __init__(self, text):
        RepairError.__init__(self, f"{text!r} comes of no right text")
        self.text = copied(text)


class Several(RepairError):
    """A text comes of several right texts."""

    def __init__(self, one, other):
        RepairError.__init__(self, f"{one!r} and {other!r} are both right")
        self.one = copied(one)
        self.other = copied(other)


class Ring(RepairError):
    """A repair never ends with a text."""

    def __init__(self, text):
        RepairError.__init__(self, f"the repair of {text!r} does not end")
        self.text = copied(text)


class BadFixer(RepairError):
    """The arguments tell no list of replacements."""

    def __init__(self, at):
        RepairError.__init__(self, f"this is no list of replacements: {at!r}")
        self.at = copied(at)


class BadName(RepairError):
    """A value cannot be a name."""

    def __init__(self, value):
        RepairError.__init__(self, f"{value!r} cannot be a name")
        self.value = copied(value)


class NoName(RepairError):
    """Nothing has a name."""

    def __init__(self, name):
        RepairError.__init__(self, f"nothing is called {name!r}")
        self.name = copied(name)


class Nothing(RepairError):
    """There is nothing to take back."""

    def __init__(self):
        RepairError.__init__(self, "there is nothing to take back")


class TooMany(RepairError):
    """There is more of something than there can be."""

    def __init__(self, what, most):
        RepairError.__init__(self, f"too many: {what!r}, of which there can be {most!r}")
        self.what = copied(what)
        self.most = copied(most)


class BadText(RepairError):
    """A word of a text cannot stand where it stands, or lacks."""

    def __init__(self, line, word):
        RepairError.__init__(self, f"line {line!r}, word {word!r} cannot stand, or lacks")
        self.line = copied(line)
        self.word = copied(word)


class BadCommand(RepairError):
    """A word of a command cannot stand where it stands, or lacks."""

    def __init__(self, word):
        RepairError.__init__(self, f"word {word!r} cannot stand, or lacks")
        self.word = copied(word)
