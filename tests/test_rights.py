import itertools
import random
import unittest

from blindrepair.errors import BadLetter, BadNumber, BadRight, BadWord, TooMany
from blindrepair.rights import Right
from tests.helpers import Checks, any_values, is_letter, is_text, like, texts, values_but


def right_by(machine, text):
    """Whether a machine tells a text: told by itself, from the arguments of a Right."""
    at = 0
    for letter in text:
        at = machine[at][0].get(letter)
        if at is None:
            return False
    return machine[at][1]


def some_machines(seed, many, most=5, letters="ab"):
    """Arguments of Rights, the same ones for each seed."""
    chance = random.Random(seed)
    for _ in range(many):
        size = chance.randint(1, most)
        yield [({letter: chance.randrange(size) for letter in letters if chance.random() < 0.7}, chance.random() < 0.4)
               for _ in range(size)]


def some_rights(seed, many, most=4, letters="ab"):
    return [Right(*machine) for machine in some_machines(seed, many, most, letters)]


def chain(size):
    """The arguments for the set of one text of the letter a with so many letters."""
    return [({"a": at + 1}, False) for at in range(size)] + [({}, True)]


def loop(size):
    """The arguments for the texts of a whose number of letters is a multiple of size."""
    return [({"a": (at + 1) % size}, at == 0) for at in range(size)]


class MakingTests(Checks, unittest.TestCase):

    def test_texts_of_machines(self):
        for machine in some_machines(1, 150):
            right = Right(*machine)
            for text in texts("abc", 4):
                self.assertIs(text in right, right_by(machine, text))
            self.assertEqual(right, Right(*[(dict(steps), ends) for steps, ends in right.standings]))

    def test_none_40_and_41_arguments(self):
        self.assertRaisesWith(BadRight, (None,), Right)
        self.assertEqual(str(Right(*[({}, True)] * 40)), "end")
        self.assertRaisesWith(BadRight, (None,), Right, *[({}, True)] * 41)
        self.assertRaisesWith(BadRight, (None,), Right, *[None] * 41)
        self.assertEqual(str(Right(*loop(1), *[({"b": 39}, True)] * 39)), "end a>0")
        self.assertEqual(Right(*[({"a": (at + 4) % 40}, at % 4 == 0) for at in range(40)]), Right(*loop(1)))

    def test_wrong_arguments_at_each_place(self):
        wrong = values_but(lambda value: like(value, ({}, True)))
        wrong += [({"a": 3}, True), ({"a": -1}, True), ({"a": True}, True), ({"a": None}, True), ({"a": "1"}, True),
                  ({"A": 1}, True), ({"ab": 1}, True), ({"": 1}, True), ({1: 1}, True), ({None: 1}, True), ({}, 1),
                  ({}, 0), ({}, None), ({}, "end"), ({},), ({}, True, True), [{}, True], (True, {}), ((), True),
                  ([("a", 1)], False), ({"a": 1, "b": 3}, False), ({"a": 10 ** 69}, False), ({"a": [1]}, False)]
        wrong = [value for value in wrong if not like(value, ({"a": 0}, True))]
        for at in range(3):
            for value in wrong:
                arguments = [({"a": 1}, False), ({"b": 2}, False), ({}, True)]
                arguments[at] = value
                self.assertRaisesWith(BadRight, (at,), Right, *arguments)
                self.assertRaisesWith(BadRight, (at,), Right, *arguments[:at + 1], *[5] * (2 - at))

    def test_later_changes_to_the_arguments(self):
        steps = {"a": 1}
        right = Right((steps, False), ({}, True))
        steps["b"] = 1
        self.assertEqual(str(right), "a>1 / end")
        self.assertEqual(steps, {"a": 1, "b": 1})

    def test_eight_and_nine_standings(self):
        self.assertIs(type(Right.MOST), int)
        self.assertEqual(Right.MOST, 8)
        self.assertEqual(len(Right(*chain(7))), 8)
        self.assertEqual(len(Right(*loop(8))), 8)
        for machine in (chain(8), loop(9), chain(39), loop(40)):
            self.assertRaisesWith(TooMany, ("standings", 8), Right, *machine)

    def test_standings_and_letters_are_set(self):
        right = Right(({"b": 1, "a": 2}, False), ({}, True), ({"c": 1}, False))
        self.assertLike(right.standings, (((("a", 1), ("b", 2)), False), ((("c", 2),), False), ((), True)))
        self.assertLike(right.letters, "abc")
        self.assertLike(Right.words().standings, (((), False),))
        self.assertLike(Right.words().letters, "")
        self.assertLike(Right.over("zaz").letters, "az")
        self.assertLike(Right(({"a": 1, "b": 0}, True), ({"a": 1}, False)).letters, "b")


class ReducingTests(Checks, unittest.TestCase):

    def test_what_is_left_out(self):
        self.assertEqual(str(Right(({"a": 1, "b": 2}, False), ({}, True), ({"a": 2}, False))), "a>1 / end")
        self.assertEqual(str(Right(({"a": 1}, False), ({}, True), ({"a": 1}, True))), "a>1 / end")
        self.assertEqual(str(Right(({"a": 1, "b": 2}, False), ({}, True), ({}, True))), "a>1 b>1 / end")
        self.assertEqual(str(Right(({"b": 1, "a": 2}, False), ({}, True), ({"a": 1}, False))), "a>1 b>2 / a>2 / end")

    def test_the_set_without_texts(self):
        for machine in ([({}, False)], [({"a": 0}, False)], [({"a": 1}, False), ({"b": 0}, False)],
                        [({}, False), ({}, True)], [({"a": 1}, False), ({"a": 0}, False), ({"a": 0}, True)]):
            right = Right(*machine)
            self.assertEqual(str(right), "-")
            self.assertEqual(len(right), 1)
            self.assertIs(bool(right), False)

    def test_each_rule_of_reduced_machines(self):
        for machine in some_machines(2, 150, most=6):
            right = Right(*machine)
            table = [(dict(steps), ends) for steps, ends in right.standings]
            ways = {0: ""}
            for at in range(len(table)):
                self.assertIn(at, ways)
                for letter, to in right.standings[at][0]:
                    if to not in ways:
                        self.assertEqual(to, len(ways))
                        ways[to] = ways[at] + letter
                self.assertEqual([letter for letter, to in right.standings[at][0]], sorted(table[at][0]))
            endings = []
            for at in range(len(table)):
                moved = [({letter: to + 1 for letter, to in steps.items()}, ends) for steps, ends in table]
                endings.append(frozenset(text for text in texts("ab", 6) if right_by([moved[at]] + moved, text)))
            if bool(right):
                self.assertTrue(all(endings))
            self.assertEqual(len(set(endings)), len(endings))

    def test_equal_exactly_if_they_have_the_same_texts(self):
        machines = list(some_machines(3, 60, most=3))
        sets = [frozenset(text for text in texts("ab", 6) if right_by(machine, text)) for machine in machines]
        rights = [Right(*machine) for machine in machines]
        for one, other in itertools.product(range(len(rights)), repeat=2):
            self.assertEqual(rights[one] == rights[other], sets[one] == sets[other])
            self.assertEqual(rights[one] != rights[other], sets[one] != sets[other])
            self.assertEqual(str(rights[one]) == str(rights[other]), sets[one] == sets[other])

    def test_equal_to_nothing_else(self):
        for value in values_but(lambda value: isinstance(value, Right)):
            self.assertFalse(Right.words() == value)
            self.assertFalse(value == Right.words())
        self.assertFalse(Right.words("a") == Right.words("a").standings)


class WordsTests(Checks, unittest.TestCase):

    def test_words(self):
        for words in ([], [""], ["a"], ["a", "a", ""], ["ab", "ac", "b"], ["abc", "ab", "bc", "c"], ["aaaaaaa"]):
            right = Right.words(*words)
            self.assertEqual([text for text in texts("abc", 4) if text in right],
                             [text for text in texts("abc", 4) if text in words])
            self.assertEqual(bool(right), words != [])
        self.assertEqual(len(Right.words("a" * 7)), 8)

    def states_of(self, words):
        """How many standings words need: what can stand behind each of their beginnings, each set once."""
        found = {frozenset(word[len(start):] for word in words if word.startswith(start))
                 for word in words for start in (word[:size] for size in range(len(word) + 1))}
        return len(found)

    def test_how_many_standings_words_need(self):
        for words in (["ab", "ac", "b"], ["abcdefg", "c"], ["ab", "bb", "cb"], ["a", "aa", "aaa"], ["", "ab"]):
            self.assertEqual(len(Right.words(*words)), self.states_of(words))

    def test_words_that_need_nine_standings(self):
        self.assertRaisesWith(TooMany, ("standings", 8), Right.words, "a" * 8)
        self.assertRaisesWith(TooMany, ("standings", 8), Right.words, "a", "b" * 2000)
        self.assertRaisesWith(TooMany, ("standings", 8), Right.words, "abcd", "efgh", "ijkl")

    def test_values_that_are_no_words(self):
        for value in values_but(is_text):
            self.assertRaisesWith(BadWord, (value,), Right.words, "a" * 9, value, 5)
        self.assertRaisesWith(BadWord, ("a" * 2001,), Right.words, "a" * 2001)

    def test_over(self):
        for letters in ("", "a", "ab", "ba", "aabb", "cab"):
            right = Right.over(letters)
            for text in texts("abcd", 3):
                self.assertIs(text in right, set(text) <= set(letters))
            self.assertEqual(len(right), 1)
        self.assertEqual(str(Right.over("")), "end")
        self.assertEqual(len(Right.over(letters="abcdefghijklmnopqrstuvwxyz").letters), 26)
        for value in values_but(is_text):
            self.assertRaisesWith(BadWord, (value,), Right.over, value)

    def test_avoiding(self):
        for letters in ("ab", "abc", "a", "", "bba"):
            for words in ([], ["aa"], ["a"], ["ab", "ba"], ["aab", "b"], ["aba", "bb"], ["ca", "z"], ["abab", "aa", "aa"],
                          ["aaa", "aa"], ["abc", "bc", "ca"]):
                right = Right.avoiding(letters, *words)
                for text in texts("abc", 5):
                    fits = set(text) <= set(letters) and not any(word in text for word in words)
                    self.assertIs(text in right, fits, (letters, words, text))

    def test_avoiding_with_random_words(self):
        chance = random.Random(5)
        for _ in range(120):
            words = ["".join(chance.choice("ab") for _ in range(chance.randint(1, 4)))
                     for _ in range(chance.randint(1, 3))]
            try:
                right = Right.avoiding("ab", *words)
            except TooMany:
                continue
            for text in texts("ab", 7):
                self.assertIs(text in right, not any(word in text for word in words), (words, text))

    def test_avoiding_with_nine_standings(self):
        self.assertEqual(len(Right.avoiding("ab", "a" * 8)), 8)
        self.assertRaisesWith(TooMany, ("standings", 8), Right.avoiding, "ab", "a" * 9)
        self.assertRaisesWith(TooMany, ("standings", 8), Right.avoiding, "ab", "ab" * 1000, "b" * 2000)
        self.assertEqual(Right.avoiding("a", "b" * 2000), Right.over("a"))
        self.assertEqual(Right.avoiding("ab", "a" * 2000, "a"), Right.over("b"))

    def test_avoiding_wrong_values(self):
        for value in values_but(is_text):
            self.assertRaisesWith(BadWord, (value,), Right.avoiding, value, 5)
            self.assertRaisesWith(BadWord, (value,), Right.avoiding, "ab", "a" * 9, value, "")
        self.assertRaisesWith(BadWord, ("",), Right.avoiding, "ab", "a" * 9, "", 5)
        self.assertRaisesWith(BadWord, ("",), Right.avoiding, "", "")


class LookingTests(Checks, unittest.TestCase):

    def test_in_for_any_value(self):
        right = Right.over("a")
        for value in any_values():
            self.assertIs(value in right, value in ("", "a") if isinstance(value, str) else False)
        self.assertIs("a" * 2000 in right, True)
        self.assertIs("a" * 2001 in right, False)

    def test_item(self):
        for machine in some_machines(6, 40):
            right = Right(*machine)
            for number in range(len(right)):
                for letter in "abcz":
                    self.assertLike(right[number, letter], dict(right.standings[number][0]).get(letter))

    def test_wrong_keys(self):
        right = Right.words("ab", "ac", "b")
        for value in any_values():
            for key in (value, (value,), (value, "a"), (0, "a", value), [0, "a"], (3, value), (-1, value)):
                if not like(key, (0, "a")) and not like(key, (1, "a")) and not like(key, (2, "a")):
                    self.assertRaisesWith(BadRight, ("standing",), right.__getitem__, key)
            if not is_letter(value):
                self.assertRaisesWith(BadLetter, (value,), right.__getitem__, (2, value))

    def test_len_bool_and_no_iteration(self):
        self.assertEqual(len(Right.words("ab")), 3)
        self.assertIs(bool(Right.words("")), True)
        self.assertIs(bool(Right.words()), False)
        with self.assertRaises(TypeError):
            list(Right.words("a"))

    def test_str(self):
        self.assertEqual(str(Right.words()), "-")
        self.assertEqual(str(Right.words("")), "end")
        self.assertEqual(str(Right.over("ba")), "end a>0 b>0")
        self.assertEqual(str(Right.words("ab", "a")), "a>1 / end b>2 / end")
        for right in some_rights(7, 60):
            lines = []
            for steps, ends in right.standings:
                lines.append(" ".join((["end"] if ends else []) + [f"{letter}>{to}" for letter, to in steps]) or "-")
            self.assertEqual(str(right), " / ".join(lines))


class OperatorTests(Checks, unittest.TestCase):

    def test_all_pairs_of_small_sets(self):
        rights = some_rights(8, 14, most=3) + [Right.words(), Right.words(""), Right.over("ab"), Right.over("c")]
        every = texts("abc", 5)
        many = 0
        for one, other in itertools.product(rights, repeat=2):
            for join, rule in ((lambda a, b: a & b, lambda a, b: a and b), (lambda a, b: a | b, lambda a, b: a or b),
                               (lambda a, b: a - b, lambda a, b: a and not b)):
                expected = {text for text in every if rule(text in one, text in other)}
                try:
                    made = join(one, other)
                except TooMany as error:
                    self.assertEqual((error.what, error.most), ("standings", 8))
                    self.assertGreater(self.standings_needed(one, other, rule), 8)
                    many += 1
                    continue
                self.assertEqual({text for text in every if text in made}, expected)
                self.assertEqual(made, Right.read(str(made)))
            self.assertIs(one <= other, all(text in other for text in every if text in one))
            self.assertIs(one >= other, other <= one)
        self.assertTrue(0 < many < 100)

    def standings_needed(self, one, other, rule):
        """How many unlike sets of short texts can stand behind short texts, told by looking at texts alone."""
        ends = texts("ab", 4)
        found = {frozenset(end for end in ends if rule(text + end in one, text + end in other))
                 for text in texts("ab", 4)}
        return len(found - {frozenset()})

    def test_other_values_on_the_right(self):
        right = Right.words("a")
        for value in values_but(lambda value: isinstance(value, Right)):
            self.assertRaisesWith(BadRight, ("other",), lambda: right & value)
            self.assertRaisesWith(BadRight, ("other",), lambda: right | value)
            self.assertRaisesWith(BadRight, ("other",), lambda: right - value)
            self.assertRaisesWith(BadRight, ("other",), lambda: right <= value)

    def test_eight_and_nine_standings(self):
        two, four, three, five = (Right(*loop(size)) for size in (2, 4, 3, 5))
        self.assertEqual(len(two & three), 6)
        self.assertEqual(len(Right(*loop(8)) & four), 8)
        for one, other in ((three, four), (three, five), (Right(*loop(8)), three)):
            self.assertRaisesWith(TooMany, ("standings", 8), lambda: one & other)
            self.assertRaisesWith(TooMany, ("standings", 8), lambda: one | other)
            self.assertRaisesWith(TooMany, ("standings", 8), lambda: one - other)
            self.assertIs(one <= other, False)
        self.assertIs(Right(*loop(8)) <= four, True)
        self.assertIs(Right(*loop(7)) <= Right(*loop(8)), False)

    def test_in_place_forms_bind_the_name(self):
        made = first = Right.words("a", "b")
        made &= Right.over("a")
        self.assertEqual(made, Right.words("a"))
        made |= Right.words("c")
        made -= Right.words("a")
        self.assertEqual(made, Right.words("c"))
        self.assertEqual(first, Right.words("a", "b"))


class PartTests(Checks, unittest.TestCase):

    def test_after_ahead_and_without(self):
        every = texts("abc", 4)
        for right in some_rights(9, 40, most=3):
            for text in ("", "a", "b", "ab", "ba", "aab", "c", "ac"):
                behind = right.after(text)
                for each in every:
                    self.assertIs(each in behind, text + each in right)
                try:
                    made = right.ahead(text)
                except TooMany:
                    self.assertTrue(right)
                    continue
                for each in every:
                    self.assertIs(each in made, each.startswith(text) and each[len(text):] in right)
            for letters in ((), ("a",), ("b", "a"), ("c",), ("a", "a")):
                made = right.without(*letters)
                for each in every:
                    self.assertIs(each in made, each in right and not set(letters) & set(each))

    def test_ahead_with_eight_and_nine_standings(self):
        self.assertEqual(len(Right.words("").ahead("a" * 7)), 8)
        self.assertRaisesWith(TooMany, ("standings", 8), Right.words("").ahead, "a" * 8)
        self.assertRaisesWith(TooMany, ("standings", 8), Right.words("").ahead, "ab" * 1000)
        self.assertEqual(str(Right.words().ahead("ab" * 1000)), "-")
        self.assertEqual(str(Right.words("a").after("ab" * 1000)), "-")
        # The texts ab, abab and so on, with a b ahead of each: these are texts that stand behind an a already.
        self.assertEqual(str(Right.read("end a>1 / b>0").ahead("b")), "b>1 / end a>0")

    def test_wrong_values(self):
        right = Right.words("ab")
        for value in [*values_but(is_text), "a" * 2001]:
            self.assertRaisesWith(BadWord, (value,), right.after, value)
            self.assertRaisesWith(BadWord, (value,), right.ahead, value)
        for value in values_but(is_letter):
            self.assertRaisesWith(BadLetter, (value,), right.without, "a", value, 5)


class ListingTests(Checks, unittest.TestCase):

    def test_least_texts_and_count(self):
        for right in some_rights(10, 80, most=5):
            every = [text for text in texts("ab", 6) if text in right]
            self.assertEqual(list(right.texts(6)), every)
            for size in range(7):
                self.assertEqual(list(right.texts(size)), [text for text in every if len(text) <= size])
                self.assertLike(right.count(size), len([text for text in every if len(text) == size]))
            self.assertEqual(right.least(), every[0] if every else None)
            self.assertIs(bool(right), every != [])

    def test_their_order(self):
        self.assertEqual(list(Right.words("b", "ab", "", "aa", "ba").texts(2)), ["", "b", "aa", "ab", "ba"])
        self.assertEqual(list(Right.words("c", "ab", "aa").texts(1)), ["c"])
        self.assertEqual(Right.words("ba", "c", "ab").least(), "c")
        self.assertEqual(Right.words("ba", "ab").least(), "ab")
        self.assertEqual(Right.words("").least(), "")
        self.assertIsNone(Right.words().least())

    def test_texts_come_one_by_one(self):
        found = Right.over("abcdefghijklmnopqrstuvwxyz").texts(40)
        self.assertEqual([next(found) for _ in range(29)][-2:], ["aa", "ab"])
        rare = Right.read("a>0 b>1 / a>1 b>0 c>2 / end") & Right.over("abc")
        self.assertEqual(list(itertools.islice(rare.texts(40), 3)), ["bc", "abc", "bac"])
        self.assertEqual(list(Right.words("a" * 7).texts(40)), ["a" * 7])
        self.assertEqual(list(Right.words().texts(40)), [])

    def test_numbers_from_0_to_40(self):
        letters = Right.over("abcdefghijklmnopqrstuvwxyz")
        self.assertEqual(letters.count(40), 26 ** 40)
        self.assertEqual(letters.count(n=0), 1)
        self.assertEqual(list(letters.texts(most=0)), [""])
        self.assertEqual(Right.avoiding("ab", "aa").count(40), 267914296)
        for value in [*values_but(lambda value: type(value) is int and 0 <= value <= 40), 41, -1, True, False]:
            self.assertRaisesWith(BadNumber, (value,), letters.count, value)
            self.assertRaisesWith(BadNumber, (value,), lambda: next(iter(letters.texts(value)), None))
            self.assertRaisesWith(BadNumber, (value,), lambda: list(Right.words().texts(value)))
