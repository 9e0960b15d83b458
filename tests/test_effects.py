import random
import unittest

from blindrepair.effects import effect_of, effects
from blindrepair.errors import BadLetter, BadList, BadRight, BadRow, BadTable, BadWord, Barred, TooMany
from blindrepair.misreadings import Misreading
from blindrepair.rights import Right
from tests.helpers import Checks, any_values, is_text, like, texts, values_but, wrong_lists
from tests.plain_effects import (all_letters, behind, image_along, is_right, just_300, plain_effect, plain_effects, rows,
                                 some_cases, told_by, turns_of_ten)
from tests.test_misreadings import some_misreadings

READ = Misreading.read
WRONG, GOOD = READ("a:a c:yc e:xc n:n x:xf"), Right.over("ane")


class EffectTests(Checks, unittest.TestCase):

    def test_rows_of_up_to_five_against_the_plain_way(self):
        chance = random.Random(1)
        sizes = set()
        for misreadings, right in some_cases(101, 120):
            told = rows(len(misreadings), 5)
            for row in [(), (0,), *chance.sample(told, min(12, len(told)))]:
                effect = effect_of(misreadings, right, row)
                self.assertLike(told_by(effect), plain_effect(misreadings, right, row))
                self.assertEqual(effect_of(misreadings=tuple(misreadings), right=right, row=row), effect)
                sizes.add(len(row))
        self.assertEqual(sizes, set(range(6)))

    def test_joined_misreadings_with_long_images(self):
        long = READ("a:abcd b:b c:c d:dddd") ** 2
        right = Right(({"a": 1, "b": 0}, False), ({"b": 0, "c": 1, "d": 2}, True), ({"d": 1}, False))
        for row in ((0,), (0, 0), (1, 0), (0, 1)):
            misreadings = [long, READ("a:d b:a c:c d:b")]
            self.assertLike(told_by(effect_of(misreadings, right, row)), plain_effect(misreadings, right, row))

    def test_letters(self):
        for misreadings, right in some_cases(102, 60, "abcx"):
            for row in ((), (0,), (0, 0)):
                effect = effect_of(misreadings, right, row)
                self.assertLike(effect.letters, tuple(all_letters(misreadings, right)))
                self.assertEqual(list(effect), list(effect.letters))
        # q stands in the right set alone, e has an image, x stands in images alone, z is none of them.
        effect = effect_of([READ("e:xa"), READ("a:a")], Right.words("aq", "b"), (1,))
        self.assertEqual(effect.letters, ("a", "b", "e", "q", "x"))
        self.assertEqual([effect[letter] for letter in "beqx"], [None] * 4)
        self.assertEqual([effect.single(letter) for letter in "abeqx"], ["a"] + [None] * 4)
        self.assertEqual(effect["a"], (1, None, None))
        self.assertEqual(effect_of([Misreading({})], Right.words(), ()).letters, ())
        self.assertIn("letters", vars(effect))

    def test_the_empty_row_is_that_of_the_letters_themselves(self):
        effect = effect_of([WRONG], Right.words("ab"), ())
        self.assertEqual([effect[letter] for letter in "abe"], [(1, None, None), (None, 2, None), (None, None, None)])
        self.assertEqual([effect.single(letter) for letter in effect], list(effect.letters))

    def test_wrong_letters(self):
        effect = effect_of([WRONG], GOOD, (0,))
        for value in [*values_but(lambda value: value == "a"), "z", "A", "xf", "an"]:
            self.assertRaisesWith(BadLetter, (value,), lambda: effect[value])
            self.assertRaisesWith(BadLetter, (value,), effect.single, value)
        self.assertIsNone(effect["f"])
        self.assertIsNone(effect.single(letter="f"))

    def test_ahead(self):
        chance = random.Random(2)
        for misreadings, right in some_cases(103, 60):
            told = rows(len(misreadings), 3)
            for row in chance.sample(told, min(5, len(told))):
                effect = effect_of(misreadings, right, row)
                for index, misreading in enumerate(misreadings):
                    self.assertEqual(effect.ahead(misreading), effect_of(misreadings, right, (index,) + row))
                self.assertLike(told_by(effect), plain_effect(misreadings, right, row))

    def test_ahead_with_other_misreadings(self):
        effect = effect_of([WRONG], GOOD, (0,))
        other = READ("a:na e:e f:f x:c")
        both = effect_of([WRONG, other], GOOD, (1, 0))
        self.assertEqual(effect.ahead(other), both)
        self.assertLike(told_by(effect.ahead(misreading=other)), plain_effect([WRONG, other], GOOD, (1, 0)))
        self.assertEqual(told_by(effect.ahead(Misreading({}))), {letter: None for letter in "acefnxy"})
        for wrong in (READ("z:a"), READ("a:z"), READ("a:a c:aaza"), READ("a:a z:z")):
            self.assertRaisesWith(BadTable, ("letters",), effect.ahead, wrong)
        for value in values_but(lambda value: isinstance(value, Misreading)):
            self.assertRaisesWith(BadTable, ("misreading",), effect.ahead, value)

    def test_behind_changes_and_in(self):
        chance = random.Random(3)
        for misreadings, right in some_cases(104, 50, "abc"):
            told = rows(len(misreadings), 3)
            for row in chance.sample(told, min(4, len(told))):
                effect = effect_of(misreadings, right, row)
                for text in texts("abcd", 3):
                    self.check_text(effect, misreadings, right, row, text)

    def check_text(self, effect, misreadings, right, row, text):
        image = image_along(misreadings, row, text)
        barred = [at for at, letter in enumerate(text)
                  if letter not in effect.letters or image_along(misreadings, row, letter) is None]
        if barred:
            self.assertRaisesWith(Barred, (barred[0],), effect.behind, text)
            self.assertRaisesWith(Barred, (barred[0],), effect.changes, text)
            self.assertIs(text in effect, False)
            return
        for start in range(len(right.standings)):
            self.assertEqual(effect.behind(text, start), behind(right, start, image))
        self.assertEqual(effect.behind(text), behind(right, 0, image))
        self.assertEqual(effect.behind(start=0, text=text), behind(right, 0, image))
        self.assertIs(effect.changes(text), image != text)
        self.assertIs(text in effect, is_right(right, image))

    def test_the_first_barred_letter_counts_also_where_the_image_leads_nowhere(self):
        effect = effect_of([WRONG], GOOD, (0,))
        for text, at in (("ny", 1), ("xxf", 2), ("z", 0), ("ezf", 1), ("yf", 0)):
            self.assertRaisesWith(Barred, (at,), effect.behind, text)
            self.assertRaisesWith(Barred, (at,), effect.behind, text, 0)
            self.assertRaisesWith(Barred, (at,), effect.changes, text)

    def test_texts_of_2000_letters(self):
        effect = effect_of([WRONG, READ("a:aaaa")], GOOD, (1, 1))
        self.assertIs("a" * 2000 in effect, True)
        self.assertIs(effect.changes("a" * 2000), True)
        self.assertEqual(effect.behind("a" * 2000), 0)
        for value in [*values_but(is_text), "a" * 2001, "aB"]:
            self.assertRaisesWith(BadWord, (value,), effect.behind, value)
            self.assertRaisesWith(BadWord, (value,), effect.behind, value, 0)
            self.assertRaisesWith(BadWord, (value,), effect.changes, value)
            self.assertIs(value in effect, False)

    def test_in_for_any_value(self):
        effect = effect_of([WRONG], GOOD, ())
        for value in any_values():
            self.assertIs(value in effect, value in ("", "a") and type(value) is str)
        self.assertIs("zz" in effect_of([WRONG], GOOD, ()), False)
        self.assertIs("" in effect_of([WRONG], Right.words("a"), (0,)), False)

    def test_equal(self):
        base = effect_of([WRONG], GOOD, (0,))
        self.assertTrue(base == effect_of((WRONG, WRONG), GOOD, (1,)))
        self.assertFalse(base != effect_of([WRONG], Right.over("ean"), (0,)))
        self.assertFalse(base == effect_of([WRONG], GOOD, (0, 0)))
        # Another right set with the same letters, also where no letter leads elsewhere, and other letters.
        self.assertFalse(base == effect_of([WRONG], Right.avoiding("ane", "nn"), (0,)))
        same = Misreading.same("ab")
        self.assertFalse(effect_of([same], Right(({"a": 0}, True)), ()) == effect_of([same], Right(({"b": 0}, True)), ()))
        self.assertFalse(effect_of([Misreading({})], Right.words(), ()) == effect_of([Misreading({})], Right.words(""), ()))
        self.assertFalse(base == effect_of([WRONG, Misreading({"z": "z"})], GOOD, (0,)))
        none = Misreading({})
        self.assertFalse(effect_of([Misreading.same("a"), none], Right.words(""), (1,))
                         == effect_of([Misreading.same("b"), none], Right.words(""), (1,)))
        for value in any_values():
            if not like(value, effect_of([Misreading({"a": "b"})], Right.words("a"), (0,))):
                self.assertFalse(effect_of([Misreading({"a": "b"})], Right.words("a"), (0,)) == value)
            self.assertFalse(base == value)

    def test_equal_exactly_if_they_tell_the_same(self):
        chance = random.Random(4)
        results = set()
        for misreadings, right in some_cases(105, 40):
            told = rows(len(misreadings), 4)
            made = [(effect_of(misreadings, right, row), plain_effect(misreadings, right, row))
                    for row in chance.sample(told, min(8, len(told)))]
            for one, first in made:
                for other, second in made:
                    self.assertIs(one == other, first == second)
                    results.add(first == second)
        self.assertEqual(results, {True, False})

    def test_singles_count(self):
        # Both lead from each standing to the same ones, but one is a single letter, or another one.
        right = Right.over("ab")
        found = [effect_of([READ(text)], right, (0,)) for text in ("a:b b:b", "a:a b:b", "a:ab b:b", "a:bb b:b")]
        self.assertEqual([one == other for one in found for other in found],
                         [True, False, False, False, False, True, False, False,
                          False, False, True, True, False, False, True, True])

    def test_wrong_arguments_in_their_order(self):
        for value, at in wrong_lists():
            self.assertRaisesWith(BadList, (at,), effect_of, value, 5, 5)
        for value in values_but(lambda value: isinstance(value, Right)):
            self.assertRaisesWith(BadRight, ("right",), effect_of, [WRONG], value, 5)
        for value in values_but(lambda value: type(value) is tuple):
            self.assertRaisesWith(BadRow, (None,), effect_of, [WRONG], GOOD, value)
        for value in [*values_but(lambda value: type(value) is int and value in (0, 1)), 2, -1, True, 3]:
            for before in ((), (0,), (1, 0, 1)):
                self.assertRaisesWith(BadRow, (len(before),), effect_of, [WRONG, WRONG], GOOD, before + (value, "x"))

    def test_later_changes_to_the_list(self):
        misreadings = [WRONG]
        effect = effect_of(misreadings, GOOD, (0,))
        misreadings[0] = READ("a:zz")
        self.assertLike(told_by(effect), plain_effect([WRONG], GOOD, (0,)))

    def test_long_rows(self):
        turn = READ("a:b b:c c:a")
        self.assertEqual(effect_of([turn], Right.words("a"), (0,) * 2999), effect_of([turn], Right.words("a"), (0, 0)))


class EffectsTests(Checks, unittest.TestCase):

    def test_each_effect_once_with_the_least_row(self):
        sizes, many = set(), set()
        for misreadings, right in some_cases(111, 150, "abc"):
            plain = plain_effects(misreadings, right, 301)
            if len(plain) == 301:
                continue
            found = list(effects(misreadings, right))
            self.assertEqual([row for row, effect in found], [row for row, effect in plain])
            self.assertEqual([told_by(effect) for row, effect in found], [effect for row, effect in plain])
            self.assertEqual([effect_of(misreadings, right, row) for row, effect in found], [pair[1] for pair in found])
            for pair in found:
                self.assertEqual((type(pair), type(pair[0])), (tuple, tuple))
            sizes.add(len(misreadings))
            many.add(len(found))
        self.assertEqual(sizes, {1, 2, 3, 4})
        self.assertTrue(len(many) > 12 and max(many) > 60, many)

    def test_no_row_is_lesser_and_none_has_another_effect(self):
        for misreadings, right in some_cases(112, 60, "abc"):
            first = {}
            for row in rows(len(misreadings), 4 if len(misreadings) < 4 else 3):
                first.setdefault(str(plain_effect(misreadings, right, row)), row)
            try:
                found = dict((str(told_by(effect)), row) for row, effect in effects(misreadings, right))
            except TooMany:
                continue
            for effect, row in first.items():
                self.assertEqual(found[effect], row)

    def test_just_300_and_more(self):
        one, right = just_300()
        found = list(effects([one], right))
        self.assertEqual([row for row, effect in found], [(0,) * size for size in range(300)])
        other, right = just_300(more=True)
        self.assertRaisesWith(TooMany, ("effects", 300), list, effects([other], right))
        turns = turns_of_ten()
        self.assertEqual(len(list(effects(turns, Right.words("a")))), 300)
        self.assertRaisesWith(TooMany, ("effects", 300), list, effects([*turns, Misreading({})], Right.words("a")))
        self.assertRaisesWith(TooMany, ("effects", 300), next, effects([*turns, Misreading({})], Right.words("a")))

    def test_random_lists_with_more(self):
        many = 0
        for misreadings, right in some_cases(113, 40, "abcde", standings=6):
            if len(plain_effects(misreadings, right, 301)) == 301:
                many += 1
                self.assertRaisesWith(TooMany, ("effects", 300), list, effects(misreadings, right))
        self.assertGreater(many, 3)

    def test_told_by_hand(self):
        self.assertEqual([row for row, effect in effects([WRONG], GOOD)], [(), (0,), (0, 0), (0, 0, 0)])
        swap, none = READ("a:b b:a"), Misreading({})
        found = list(effects(misreadings=[swap, none], right=Right.words("a")))
        self.assertEqual([row for row, effect in found], [(), (0,), (1,)])
        self.assertEqual([row for row, effect in effects([none, swap], Right.words("a"))], [(), (0,), (1,)])

    def test_a_generator_raises_with_its_first_item_at_the_latest(self):
        for value, at in wrong_lists():
            self.assertRaisesWith(BadList, (at,), lambda: next(effects(value, 5)))
        for value in values_but(lambda value: isinstance(value, Right)):
            self.assertRaisesWith(BadRight, ("right",), lambda: next(effects([WRONG], value)))

    def test_later_changes_to_the_list(self):
        misreadings = [WRONG, READ("a:e e:a")]
        expected = list(effects(misreadings, GOOD))
        going = effects(misreadings, GOOD)
        found = [next(going), next(going)]
        misreadings[0] = READ("a:b")
        found.append(next(going))
        misreadings.clear()
        found.extend(going)
        self.assertEqual(found, expected)

    def test_arguments_stay_as_they_are(self):
        for misreadings in some_cases(114, 5):
            made, right = misreadings
            told = [str(misreading) for misreading in made]
            list(effects(made[:2], right)) if len(plain_effects(made[:2], right, 301)) < 301 else None
            effect_of(made, right, (0,))
            self.assertEqual([str(misreading) for misreading in made], told)

    def test_misreadings_of_test_misreadings(self):
        made = list(some_misreadings(115, 12))
        for at in range(0, 12, 2):
            plain = plain_effects(made[at:at + 2], Right.over("ab"), 301)
            self.assertLess(len(plain), 301)
            self.assertEqual([(row, told_by(effect)) for row, effect in effects(made[at:at + 2], Right.over("ab"))], plain)
