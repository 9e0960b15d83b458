"""A desk: misreadings, right sets and lists of replacements under names, and lines that tell what to do with them."""

from blindrepair.errors import BadCommand, BadText, NoName, RepairError
from blindrepair.fixers import Fixer
from blindrepair.letters import is_name, is_text
from blindrepair.misreadings import Misreading
from blindrepair.numbers import least_remainder
from blindrepair.origins import repaired
from blindrepair.repairs import Undoing
from blindrepair.rights import Right
from blindrepair.sound import sound
from blindrepair.values import by_name
from blindrepair.verdicts import decide

# For each first word the kinds of the words that have to stand behind it, and of those that can stand behind these.
FORMS = {"misreading": (("name", "image"), ("image",)), "words": (("name", "word"), ("word",)),
         "over": (("name", "word"), ()), "fixer": (("name", "row", "row"), ("row", "row")),
         "join": (("name", "name", "name"), ()), "forget": (("name",), ()), "show": (("name",), ()),
         "run": (("name", "word"), ()), "undo": (("name", "word"), ()),
         "decide": (("name", "name"), ("name", "name", "name")), "sound": (("name",), ("name", "name", "name")),
         "origin": (("name", "word", "name"), ("name", "name", "name")), "remainder": (("name", "name"), ()),
         "spoiled": (("name", "name"), ()), "back": ((), ())}
# Behind these first words, what can stand can stand again and again.
ENDLESS = ("misreading", "words", "fixer")


class Desk:
    """Keeps Misreadings, Rights and Fixers by names. What it keeps is never changed itself, only exchanged."""

    def __init__(self):
        self._things = {}
        self._past = ()

    def __len__(self):
        return len(self._things)

    def __iter__(self):
        return iter(self._things)

    def __contains__(self, x):
        return isinstance(x, str) and x in self._things

    def __call__(self, line):
        return self.say(line)

    def say(self, line):
        """Does what a line says and returns the answer."""
        words = told_words(line)
        if words[0] == "back":
            return self._back()
        try:
            return self._answer(words)
        except RepairError as error:
            return f"refused {error.__class__.__name__}"

    def say_all(self, *lines):
        """The answers to all lines. If one is no line, all is as it was ahead of the first one."""
        things = self._things
        past = self._past
        answers = []
        try:
            for line in lines:
                answers.append(self.say(line))
        except BadCommand:
            self._things = things
            self._past = past
            raise
        return answers

    def _answer(self, words):
        """Does what the words of a line say, if no error is raised."""
        if words[0] in ANSWERS:
            answer = ANSWERS[words[0]]
            return answer(self._things, words)
        things = things_behind(self._things, words)
        self._past = self._past + (self._things,)
        self._things = things
        return "ok"

    def _back(self):
        """Takes back the last change that was not taken back."""
        if not self._past:
            return "nothing"
        self._things = self._past[-1]
        self._past = self._past[:-1]
        return "ok"


def told_words(line):
    """The words of a line of the table. Raises an error for what is none."""
    if not isinstance(line, str):
        raise BadCommand(0)
    words = line.split(" ")
    if words[0] not in FORMS:
        raise BadCommand(0)
    needed, more = FORMS[words[0]]
    kinds = needed + (more * len(words) if words[0] in ENDLESS else more)
    for at in range(1, len(words)):
        if at > len(kinds) or not fits(words[at], kinds[at - 1]):
            raise BadCommand(at)
    if len(words) <= len(needed) or (words[0] == "fixer" and len(words) % 2 == 1):
        raise BadCommand(len(words))
    if words[0] == "misreading":
        check_images(words)
    return words


def fits(word, kind):
    """Whether a word can stand where one of a kind stands. Images are looked at together."""
    if kind == "name":
        return is_name(word)
    if kind == "image" or (kind == "word" and word == "-"):
        return True
    return is_text(word) and word != ""


def check_images(words):
    """Raises an error for a line the images of which are no str of a Misreading."""
    try:
        Misreading.read(" ".join(words[2:]))
    except BadText as error:
        raise BadCommand(2 + error.word) from None


def text_of(word):
    """The text that a word tells."""
    return "" if word == "-" else word


def word_of(text):
    """The word that tells a text."""
    return "-" if text == "" else text


def thing_of(things, name):
    """What has a name."""
    if name not in things:
        raise NoName(name)
    return things[name]


def misreading_of(things, name):
    """The Misreading with a name."""
    thing = thing_of(things, name)
    if not isinstance(thing, Misreading):
        raise NoName(name)
    return thing


def right_of(things, name):
    """The Right with a name."""
    thing = thing_of(things, name)
    if not isinstance(thing, Right):
        raise NoName(name)
    return thing


def fixer_of(things, name):
    """The Fixer with a name."""
    thing = thing_of(things, name)
    if not isinstance(thing, Fixer):
        raise NoName(name)
    return thing


def things_behind(things, words):
    """What a desk keeps behind a line that changes something."""
    if words[0] == "forget":
        thing_of(things, words[1])
        return {name: things[name] for name in things if name != words[1]}
    make = MAKERS[words[0]]
    thing = make(things, words)
    name = words[3] if words[0] == "join" else words[1]
    return by_name({**things, name: thing})


def made_misreading(things, words):
    """The Misreading that a line tells."""
    return Misreading.read(" ".join(words[2:]))


def made_words(things, words):
    """The Right of the words of a line."""
    told = [text_of(word) for word in words[2:]]
    return Right.words(*told)


def made_over(things, words):
    """The Right of all texts over the letters of a line."""
    return Right.over(text_of(words[2]))


def made_fixer(things, words):
    """The Fixer of the pairs of a line."""
    pairs = [(words[at], words[at + 1]) for at in range(2, len(words), 2)]
    return Fixer(*pairs)


def made_join(things, words):
    """Two Misreadings, one behind the other."""
    one = misreading_of(things, words[1])
    other = misreading_of(things, words[2])
    return one >> other


MAKERS = {"misreading": made_misreading, "words": made_words, "over": made_over, "fixer": made_fixer, "join": made_join}


def answer_show(things, words):
    """A thing as a line tells it."""
    thing = thing_of(things, words[1])
    if isinstance(thing, Fixer):
        return " ".join([f"{row} {result}" for row, result in thing])
    return str(thing)


def answer_run(things, words):
    """What a Misreading or a Fixer makes of a text."""
    thing = thing_of(things, words[1])
    if isinstance(thing, Right):
        raise NoName(words[1])
    return word_of(thing(text_of(words[2])))


def answer_undo(things, words):
    """What the Undoing of a Misreading makes of a text."""
    undoing = Undoing(misreading_of(things, words[1]))
    return word_of(undoing(text_of(words[2])))


def answer_decide(things, words):
    """Whether there is a clash, and which."""
    right = right_of(things, words[1])
    verdict = decide([misreading_of(things, name) for name in words[2:]], right)
    if verdict:
        return "calm"
    return " ".join(["clash", verdict.text] + [str(index) for index in verdict.row])


def answer_sound(things, words):
    """Whether a list of Misreadings is sound."""
    return "sound" if sound([misreading_of(things, name) for name in words[1:]]) else "unsound"


def answer_origin(things, words):
    """The one right text of which a text can come."""
    right = right_of(things, words[1])
    return word_of(repaired([misreading_of(things, name) for name in words[3:]], right, text_of(words[2])))


def answer_remainder(things, words):
    """The least remainder of a Misreading and a Right."""
    misreading = misreading_of(things, words[1])
    least = least_remainder(misreading, right_of(things, words[2]))
    return "none" if least is None else str(least)


def answer_spoiled(things, words):
    """The first right text that a Fixer does not leave as it is."""
    fixer = fixer_of(things, words[1])
    text = fixer.spoiled(right_of(things, words[2]))
    return "none" if text is None else word_of(text)


ANSWERS = {"show": answer_show, "run": answer_run, "undo": answer_undo, "decide": answer_decide, "sound": answer_sound,
           "origin": answer_origin, "remainder": answer_remainder, "spoiled": answer_spoiled}
