import random
import re
import unittest

from blindrepair.desk import Desk
from blindrepair.errors import BadCommand, RepairError
from blindrepair.fixers import Fixer
from blindrepair.misreadings import Misreading
from blindrepair.numbers import least_remainder
from blindrepair.origins import repaired
from blindrepair.repairs import Undoing
from blindrepair.rights import Right
from blindrepair.sound import sound
from blindrepair.verdicts import decide
from tests.helpers import Checks, any_values, is_text
from tests.plain_texts import misreading_fault

READ = Misreading.read
# For each first word a pattern of the kinds of all words behind it: a name, a word, a row or result.
PATTERNS = {"words": "n(w)+", "over": "nw", "fixer": "n(rr)+", "join": "nnn", "forget": "n", "show": "n", "run": "nw", "undo": "nw",
            "decide": "n(n){1,4}", "sound": "(n){1,4}", "origin": "nw(n){1,4}", "remainder": "nn", "spoiled": "nn", "back": ""}
LINES = ["misreading m a:a c:c e:xc f:f x:xf", "misreading m -", "misreading abcdefgh a:b", "words w e xc", "words w -", "words w - a",
         "over r ae", "over r -", "fixer f xc e xf x", "fixer f a b", "join m m k", "forget m", "show r", "run m ae", "run m -",
         "undo m axfc", "decide r m", "decide r m m m m", "sound m", "sound m m m m", "origin r axfc m", "origin r - m m m m",
         "remainder m r", "spoiled f r", "back"]


def kinds_fitting(word):
    """The letters of the kinds that a word can be of."""
    kinds = "n" if is_text(word) and 1 <= len(word) <= 8 else ""
    kinds += "w" if word == "-" or (is_text(word) and word) else ""
    return kinds + ("r" if is_text(word) and word else "")


def beginnings(pattern):
    """All beginnings of short rows of kinds that a pattern has, as a test of rows."""
    rows = [""]
    for _ in range(14):
        rows += [row + kind for row in rows if len(row) == max(map(len, rows)) for kind in "nwr"]
        rows = [row for row in rows if any(re.fullmatch(pattern, row + more) for more in
                                           ("", "n", "w", "r", "nn", "wn", "rr", "nw", "nnn", "nwn", "nrr", "rrr"))]
    return set(rows)


BEGINNINGS = {head: beginnings(pattern) for head, pattern in PATTERNS.items()}


def plain_fault(line):
    """The index of which BadCommand tells, None for a line of the table."""
    if type(line) is not str:
        return 0
    words = line.split(" ")
    if words[0] == "misreading":
        if len(words) < 3:
            return 1 if len(words) == 2 and "n" not in kinds_fitting(words[1]) else len(words)
        if "n" not in kinds_fitting(words[1]):
            return 1
        fault = misreading_fault(words[2:], None)
        return None if fault is None else fault + 2
    if words[0] not in PATTERNS:
        return 0
    rows = {""}
    for at, word in enumerate(words[1:], 1):
        rows = {row + kind for row in rows for kind in kinds_fitting(word)} & BEGINNINGS[words[0]]
        if not rows:
            return at
    return None if any(re.fullmatch(PATTERNS[words[0]], row) for row in rows) else len(words)


def told(desk):
    """All that can be seen of a desk but for what can be taken back."""
    return {name: desk.say(f"show {name}") for name in desk}, len(desk)


def undone(desk):
    """All states of a desk that can be taken back, the last one first; the desk is empty behind that."""
    states = [told(desk)]
    while desk.say("back") == "ok":
        states.append(told(desk))
    return states


class Plain:
    """What a desk has to answer, by the functions themselves."""

    def __init__(self):
        self.things, self.past = {}, []

    def thing(self, name, *kinds):
        if not isinstance(self.things.get(name), kinds):
            raise KeyError(name)
        return self.things[name]

    def text(self, word):
        return "" if word == "-" else word

    def keep(self, name, thing):
        self.past.append(dict(self.things))
        self.things = {key: value for key, value in {**self.things, name: thing}.items() if value is not None}
        return "ok"

    def say(self, line):
        head, *words = line.split(" ")
        try:
            return getattr(self, head)(*words)
        except KeyError:
            return "refused NoName"
        except RepairError as error:
            return "refused " + type(error).__name__

    def back(self):
        if not self.past:
            return "nothing"
        self.things = self.past.pop()
        return "ok"

    def misreading(self, name, *images):
        return self.keep(name, READ(" ".join(images)))

    def words(self, name, *words):
        return self.keep(name, Right.words(*map(self.text, words)))

    def over(self, name, letters):
        return self.keep(name, Right.over(self.text(letters)))

    def fixer(self, name, *words):
        return self.keep(name, Fixer(*zip(words[::2], words[1::2])))

    def join(self, one, other, name):
        return self.keep(name, self.thing(one, Misreading) >> self.thing(other, Misreading))

    def forget(self, name):
        self.thing(name, object)
        return self.keep(name, None)

    def show(self, name):
        thing = self.thing(name, object)
        return " ".join(" ".join(pair) for pair in thing.pairs) if isinstance(thing, Fixer) else str(thing)

    def run(self, name, word):
        return self.thing(name, Misreading, Fixer)(self.text(word)) or "-"

    def undo(self, name, word):
        return Undoing(self.thing(name, Misreading))(self.text(word)) or "-"

    def decide(self, name, *names):
        right = self.thing(name, Right)
        found = decide([self.thing(each, Misreading) for each in names], right)
        return "calm" if found else f"clash {found.text} {' '.join(map(str, found.row))}"

    def sound(self, *names):
        return "sound" if sound([self.thing(each, Misreading) for each in names]) else "unsound"

    def origin(self, name, word, *names):
        right = self.thing(name, Right)
        return repaired([self.thing(each, Misreading) for each in names], right, self.text(word)) or "-"

    def remainder(self, name, other):
        least = least_remainder(self.thing(name, Misreading), self.thing(other, Right))
        return "none" if least is None else str(least)

    def spoiled(self, name, other):
        text = self.thing(name, Fixer).spoiled(self.thing(other, Right))
        return "none" if text is None else text or "-"


class FormTests(Checks, unittest.TestCase):

    def test_what_is_no_string_or_has_another_first_word(self):
        desk = Desk()
        for value in [*any_values(), "", " ", " back", "Back", "backs", "misreadings", "show\nr", "word w a", "forget\tm", b"back", ["back"]]:
            if value not in list(PATTERNS):
                self.assertRaisesWith(BadCommand, (0,), desk.say, value)
                self.assertRaisesWith(BadCommand, (0,), desk, value)
                self.assertRaisesWith(BadCommand, (0,), desk.say_all, value)

    def test_each_word_wrong_in_its_turn(self):
        faults = set()
        some = ["", "-", "a", "A", "abcdefgh", "abcdefghi", "a1", "a:b", "x:xf", "b:", "5", "a" * 2000, "a" * 2001, "back", "a\n", "none"]
        for line in LINES:
            self.assertIsNone(plain_fault(line), line)
            words = line.split(" ")
            made = [line + " ", " " + line, line + "\n", line.replace(" ", "  "), line.upper()]
            for at in range(len(words)):
                made += [" ".join(words[:at] + row + words[at + 1:]) for row in ([], words[at:at + 1] * 2)]
                made += [" ".join(words[:at] + [word] + words[at + 1:]) for word in some]
                made += [" ".join(words[:at] + [word] + words[at:]) for word in some]
                made.append(" ".join(words[:at]))
            made += [line + " " + word for word in some] + [line + " m m m m m m m"]
            for other in made:
                fault = plain_fault(other)
                if fault is None:
                    self.assertIs(type(Desk().say(other)), str)
                else:
                    desk = Desk()
                    desk.say("over m a")
                    self.assertRaisesWith(BadCommand, (fault,), desk.say, other)
                    self.assertRaisesWith(BadCommand, (fault,), desk, other)
                    self.assertEqual(told(desk), ({"m": "end a>0"}, 1))
                    self.assertEqual(desk.say("back"), "ok")
                    self.assertEqual(len(desk), 0)
                faults.add((words[0], fault))
        for each in (("misreading", 1), ("misreading", 2), ("misreading", 6), ("misreading", 7), ("words", 1), ("words", 2), ("words", 3),
                     ("fixer", 2), ("fixer", 4), ("fixer", 6), ("fixer", 3), ("join", 3), ("join", 4), ("decide", 2), ("decide", 6),
                     ("sound", 1), ("sound", 5), ("origin", 2), ("origin", 3), ("origin", 7), ("back", 1), ("remainder", 2),
                     ("spoiled", 3), ("show", 2), ("forget", 1), ("run", 2), ("undo", 3), ("over", 2), ("over", 3)):
            self.assertIn(each, faults)

    def test_lines_that_lack_words(self):
        for line, fault in (("misreading", 1), ("misreading m", 2), ("words", 1), ("words w", 2), ("over", 1), ("over r", 2), ("fixer", 1),
                            ("fixer f", 2), ("fixer f a", 3), ("fixer f a b ab", 5), ("join a b", 3), ("join", 1), ("forget", 1),
                            ("show", 1), ("run m", 2), ("undo m", 2), ("decide r", 2), ("decide", 1), ("sound", 1), ("origin r", 2),
                            ("origin r a", 3), ("remainder m", 2), ("spoiled f", 2)):
            self.assertRaisesWith(BadCommand, (fault,), Desk().say, line)

    def test_images(self):
        for line, fault in (("misreading m a:a c:c e:xc x:xf f:f", 6), ("misreading m - a:b", 3), ("misreading m a:b -", 3),
                            ("misreading m a:bcdef", 2), ("misreading m a:b a:b", 3), ("misreading m a:", 2), ("misreading M a:b", 1),
                            ("misreading m " + " ".join(f"{letter}:a" for letter in "abcdefghijklm"), 14)):
            self.assertRaisesWith(BadCommand, (fault,), Desk().say, line)
        self.assertEqual(Desk().say("misreading m " + " ".join(f"{letter}:a" for letter in "abcdefghijkl")), "ok")


class AnswerTests(Checks, unittest.TestCase):

    def desk(self):
        desk = Desk()
        for line in ("misreading m a:a c:c e:xc f:f x:xf", "over r ae", "words w e xc", "fixer f xc e xf x", "misreading t a:b b:c c:a",
                     "misreading b a:x b:x", "misreading n -", "words none abc", "words aorb a b", "misreading g f:f x:xf", "over xf xf"):
            self.assertEqual(desk.say(line=line), "ok")
        return desk

    def test_each_line(self):
        desk = self.desk()
        for line, answer in (
                ("show m", "a:a c:c e:xc f:f x:xf"), ("show r", "end a>0 e>0"), ("show f", "xc e xf x"), ("show n", "-"),
                ("show w", "e>1 x>2 / end / c>1"), ("run m ae", "axc"), ("run m -", "-"), ("run f axfc", "ae"), ("run f -", "-"),
                ("run f za", "za"), ("undo m axfc", "ae"), ("undo m -", "-"), ("undo m ca", "ca"), ("undo m z", "z"),
                ("decide r m", "calm"), ("decide w m", "clash e 0"), ("decide r m n", "calm"),
                ("decide aorb t", "clash a 0"), ("decide none t", "calm"), ("sound m", "sound"), ("sound b", "unsound"),
                ("sound m n", "sound"), ("sound m t", "sound" if sound([READ("a:a c:c e:xc f:f x:xf"), READ("a:b b:c c:a")]) else "unsound"),
                ("origin r axfc m", "ae"), ("origin r - m", "-"), ("origin none abc n", "abc"), ("remainder m r", "1"), ("remainder m w", "2"),
                ("remainder t aorb", "3"), ("remainder g xf", "none"), ("spoiled f r", "none"), ("spoiled f w", "xc")):
            self.assertEqual(desk.say(line), answer, line)
            self.assertEqual(desk(line=line), answer)

    def test_refused(self):
        desk = self.desk()
        before = told(desk)
        for line, name in (("run m z", "Barred"), ("run m " + "e" * 1001, "TooMany"), ("undo b x", "Merging"),
                           ("undo t a", "Ring"), ("origin r xx m", "NoOrigin"), ("origin w xfc m", "Several"), ("remainder b r", "Merging"),
                           ("words q abcdefgh a", "TooMany"), ("fixer q a ab", "BadFixer"), ("fixer q a a", "BadFixer"),
                           ("fixer q abcdefghi a", "BadFixer"), ("fixer q ab a ab b", "BadFixer"),
                           ("fixer q " + " ".join(f"{letter} z" for letter in "abcdefghijklm"), "TooMany")):
            self.assertEqual(desk.say(line), f"refused {name}", line)
        self.assertEqual(told(desk), before)
        desk.say("misreading four a:aaaa")
        for _ in range(2):
            desk.say("join four four four")
        self.assertEqual(desk.say("join four four four"), "refused TooMany")
        self.assertEqual(desk.say("sound four"), "refused TooMany")
        self.assertEqual(desk.say("undo four a"), "refused TooMany")
        self.assertEqual(desk.say("fixer loop a b b a"), "ok")
        self.assertEqual([desk.say("run loop a"), desk.say("run loop za"), desk.say("run loop z")], ["refused Ring", "refused Ring", "z"])

    def test_things_of_another_kind(self):
        desk = self.desk()
        for line in ("run r a", "run q a", "undo r a", "undo f a", "undo q a", "decide m m", "decide f m", "decide r r", "decide r m f",
                     "decide q m", "decide r q", "sound r", "sound m f", "sound q", "origin m a m", "origin r a r", "origin r a m q",
                     "remainder r r", "remainder m m", "remainder f r", "remainder m q", "spoiled m r", "spoiled f m", "spoiled f f",
                     "spoiled r r", "forget q", "show q", "join m r k", "join r m k", "join q m k", "join f m k", "join m q k"):
            before = told(desk)
            self.assertEqual(desk.say(line), "refused NoName", line)
            self.assertEqual(told(desk), before)

    def test_names_are_looked_at_ahead_of_the_call(self):
        desk = self.desk()
        # The text could not be misread, and the Misreading is not one to one: but a name has nothing.
        for line in ("remainder b q", "origin q xx m", "origin w xfc m q", "decide q b", "sound b q"):
            self.assertEqual(desk.say(line), "refused NoName")

    def test_what_has_the_name_goes(self):
        desk = Desk()
        for line, shown in (("misreading x a:b", "a:b"), ("words x a", "a>1 / end"), ("over x a", "end a>0"), ("fixer x ab a", "ab a"),
                            ("misreading x -", "-"), ("fixer x b a", "b a")):
            self.assertEqual([desk.say(line), desk.say("show x"), len(desk)], ["ok", shown, 1])
        desk.say("misreading one a:bb b:b")
        for target in ("x", "one"):
            self.assertEqual(desk.say(f"join one one {target}"), "ok")
            self.assertEqual(desk.say(f"show {target}"), "a:bb b:b")
        desk.say("misreading two b:cd")
        self.assertEqual([desk.say("join one two both"), desk.say("show both")], ["ok", "a:cdcd b:cd"])
        self.assertEqual([desk.say("join two one both"), desk.say("show both")], ["ok", "-"])

    def test_names(self):
        desk = self.desk()
        self.assertEqual(list(desk), sorted(["m", "r", "w", "f", "t", "b", "n", "none", "aorb", "g", "xf"]))
        self.assertLike(len(desk), 11)
        for value in [*any_values(), "q", "M", ("m",), ["m"]]:
            self.assertIs(value in desk, value == "b" and type(value) is str)
        self.assertIs("aorb" in desk, True)
        for name in desk:
            self.assertEqual(desk.say(f"forget {name}"), "ok")
        self.assertEqual([len(desk), list(desk), "m" in desk], [0, [], False])

    def test_drawn_lines_by_a_second_desk(self):
        counts = {}
        for seed in range(30):
            chance = random.Random(1300 + seed)
            desk, plain = Desk(), Plain()
            for _ in range(150):
                line = self.drawn(chance)
                answer = plain.say(line)
                self.assertEqual(desk.say(line), answer, line)
                self.assertEqual(list(desk), sorted(plain.things))
                key = (line.split(" ")[0], answer if answer.startswith("refused") else "answer")
                counts[key] = counts.get(key, 0) + 1
            self.assertEqual(told(desk)[0], {name: plain.show(name) for name in sorted(plain.things)})
        for head in [*PATTERNS, "misreading"]:
            self.assertGreater(counts[head, "answer"], 15)
        for each in (("run", "refused Barred"), ("undo", "refused Ring"), ("undo", "refused Merging"), ("origin", "refused NoOrigin"),
                     ("origin", "refused Several"), ("remainder", "refused Merging"), ("fixer", "refused BadFixer")):
            self.assertGreater(counts.get(each, 0), 2, counts)

    def drawn(self, chance):
        head = chance.choice(["misreading"] * 4 + ["words"] * 2 + ["over"] * 2 + ["fixer"] * 2
                             + ["join", "forget", "show", "run", "undo", "decide", "sound", "origin", "remainder", "spoiled", "back"])
        words = ["-", "a", "b", "ab", "ba", "aab", "c", "abc", "ad"]
        mis, rig, fix = (chance.choice([kind + "abc"[at] for at in range(3)] + ["z"] * (at == 9)) for at, kind in enumerate("mrf"))
        more = [chance.choice(["ma", "mb", "mc"]) for _ in range(chance.randint(0, 2))]
        if chance.random() < 0.07:
            mis, rig = rig, mis
        return " ".join({
            "misreading": [head, mis, *(f"{letter}:{chance.choice('abc') + chance.choice(['', '', 'b'])}" for letter in "abc")],
            "words": [head, rig, *(chance.choice(words) for _ in range(chance.randint(1, 3)))],
            "over": [head, rig, chance.choice(words)],
            "fixer": [head, fix, *(chance.choice(words[1:]) for _ in range(2 * chance.randint(1, 2)))],
            "join": [head, mis, chance.choice(["ma", "mb"]), chance.choice(["ma", "mb", "rc"])],
            "run": [head, chance.choice([mis, fix]), chance.choice(words)], "undo": [head, mis, chance.choice(words)],
            "decide": [head, rig, mis, *more], "sound": [head, mis, *more], "origin": [head, rig, chance.choice(words), mis, *more],
            "remainder": [head, mis, rig], "spoiled": [head, fix, rig], "forget": [head, chance.choice([mis, rig, fix])],
            "show": [head, chance.choice([mis, rig, fix])], "back": [head]}[head])


class BackTests(Checks, unittest.TestCase):

    def test_back_of_each_line_that_changes_something(self):
        desk = Desk()
        lines = ["misreading m a:bb b:b", "words w a -", "over m ab", "fixer f ab a", "misreading m a:b b:a", "join m m k", "join m k w",
                 "forget f", "forget m", "over k -"]
        states = [told(desk)]
        for line in lines:
            self.assertEqual(desk.say(line), "ok")
            states.append(told(desk))
        for state in states[-2::-1]:
            self.assertEqual(desk.say("back"), "ok")
            self.assertEqual(told(desk), state)
        self.assertEqual(desk.say("back"), "nothing")
        self.assertEqual(desk.say("back"), "nothing")
        self.assertEqual(told(desk), ({}, 0))

    def test_a_line_that_makes_an_equal_thing_changes_something(self):
        desk = Desk()
        for _ in range(3):
            desk.say("over r ab")
        self.assertEqual([desk("back"), len(desk), desk("back"), len(desk), desk("back"), len(desk), desk("back")],
                         ["ok", 1, "ok", 1, "ok", 0, "nothing"])

    def test_lines_that_change_nothing(self):
        desk = Desk()
        desk.say("over r ab")
        desk.say("misreading m a:b b:a")
        for line in ("show r", "run m a", "decide r m", "forget q", "join m r k", "fixer f a a", "words w abcdefgh a", "sound m",
                     "origin r a m", "remainder m r", "undo m a", "spoiled f r"):
            desk.say(line)
        self.assertEqual([desk("back"), list(desk)], ["ok", ["r"]])
        self.assertEqual([desk("back"), list(desk), desk("back")], ["ok", [], "nothing"])

    def test_back_is_no_change_itself(self):
        desk = Desk()
        for line in ("over a a", "over b b", "over c c"):
            desk.say(line)
        self.assertEqual([desk("back"), desk("back"), list(desk)], ["ok", "ok", ["a"]])
        desk.say("over d d")
        self.assertEqual([desk("back"), list(desk), desk("back"), list(desk), desk("back")], ["ok", ["a"], "ok", [], "nothing"])


class SayAllTests(Checks, unittest.TestCase):

    def test_answers(self):
        desk = Desk()
        self.assertLike(desk.say_all(), [])
        self.assertLike(desk.say_all("over r a", "show r", "run r a", "back", "back"), ["ok", "end a>0", "refused NoName", "ok", "nothing"])
        answers = desk.say_all("over r a")
        answers.append("x")
        self.assertEqual(desk.say_all("show r"), ["end a>0"])

    def test_back_takes_back_each_line_by_itself(self):
        desk = Desk()
        desk.say_all("over a a", "over b b", "forget a")
        self.assertEqual([desk("back"), list(desk), desk("back"), list(desk), desk("back"), list(desk)],
                         ["ok", ["a", "b"], "ok", ["a"], "ok", []])

    def test_a_line_of_no_form_at_each_place(self):
        lines = ["over r ab", "back", "back", "misreading m a:b b:a", "words r a b", "forget q", "decide r m", "back"]
        for at in range(len(lines) + 1):
            for wrong, fault in (("over r", 2), (None, 0), ("", 0), ("misreading m a:a c:c b:b", 4), ("back back", 1)):
                desk, other = Desk(), Desk()
                for each in (desk, other):
                    each.say_all("over first a", "misreading m a:ab b:b")
                self.assertRaisesWith(BadCommand, (fault,), desk.say_all, *lines[:at], wrong, *lines[at:])
                self.assertEqual(told(desk), told(other))
                self.assertEqual(desk.say_all(*lines), other.say_all(*lines))
                self.assertRaisesWith(BadCommand, (fault,), desk.say_all, *lines[:at], wrong, *lines[at:])
                self.assertEqual(undone(desk), undone(other))

    def test_what_it_took_back_comes_back(self):
        desk = Desk()
        desk.say_all("over a a", "over b b")
        self.assertRaisesWith(BadCommand, (0,), desk.say_all, "back", "back", "back", "over c c", "no")
        self.assertEqual(undone(desk), [({"a": "end a>0", "b": "end b>0"}, 2), ({"a": "end a>0"}, 1), ({}, 0)])

    def test_all_lines_told_again(self):
        for seed in range(10):
            chance = random.Random(1400 + seed)
            drawn = AnswerTests()
            lines = [AnswerTests.drawn(drawn, chance) for _ in range(60)]
            one, other, third = Desk(), Desk(), Desk()
            answers = [one.say(line) for line in lines]
            self.assertEqual(other.say_all(*lines), answers)
            self.assertEqual(told(one), told(other))
            # What a desk shows makes the same things again.
            for name in one:
                shown = one.say(f"show {name}")
                if ":" in shown or (shown == "-" and one.say(f"undo {name} -") == "-"):
                    if not any(len(word) > 6 for word in shown.split(" ")):
                        self.assertEqual([third.say(f"misreading {name} {shown}"), third.say(f"show {name}")], ["ok", shown])
                elif ">" not in shown and "end" not in shown and shown != "-":
                    self.assertEqual([third.say(f"fixer {name} {shown}"), third.say(f"show {name}")], ["ok", shown])
            self.assertEqual(undone(one), undone(other))

    def test_the_interface(self):
        for name in ("__init__", "__call__", "say", "say_all", "__len__", "__iter__", "__contains__"):
            self.assertIn(name, vars(Desk))


if __name__ == "__main__":
    unittest.main()
