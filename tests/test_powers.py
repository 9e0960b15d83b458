import random
import unittest

from blindrepair.effects import effect_of
from blindrepair.errors import BadNumber, BadRight, BadTable, TooMany
from blindrepair.misreadings import Misreading
from blindrepair.powers import Powers
from blindrepair.rights import Right
from tests.helpers import Checks, any_values, texts, values_but
from tests.plain_effects import image_along, is_right, just_300, plain_effect, some_cases, step_ahead, told_by

READ = Misreading.read
TURN = READ("a:b b:c c:a")


def plain_powers(misreading, right):
    """The effects one by one up to the first one that comes again, and the number of that one."""
    found = [plain_effect([misreading], right, ())]
    while True:
        ahead = step_ahead(found[-1], misreading)
        if ahead in found:
            return found, found.index(ahead)
        found.append(ahead)


class PowersTests(Checks, unittest.TestCase):

    def cases(self, seed, many):
        for misreadings, right in some_cases(seed, many, "abcde", standings=6, misreadings=1):
            yield misreadings[0], right

    def test_effects_one_by_one(self):
        begins, periods = set(), set()
        for misreading, right in self.cases(201, 250):
            powers = Powers(misreading, right)
            found, begin = plain_powers(misreading, right)
            self.assertEqual((powers.begin, powers.period, len(powers)), (begin, len(found) - begin, len(found)))
            self.assertEqual([told_by(effect) for effect in powers], found)
            for k in range(2 * len(found) + 3):
                same = k if k < len(found) else begin + (k - begin) % (len(found) - begin)
                self.assertEqual(told_by(powers(k)), found[same])
                self.assertEqual(powers(k=k), effect_of([misreading], right, (0,) * k))
            begins.add(begin)
            periods.add(len(found) - begin)
        self.assertTrue(len(begins) > 5 and len(periods) > 3, (begins, periods))

    def test_effects_by_images(self):
        for misreading, right in self.cases(202, 60):
            powers = Powers(misreading=misreading, right=right)
            for k in range(5):
                self.assertLike(told_by(powers(k)), plain_effect([misreading], right, (0,) * k))

    def test_turns(self):
        for misreading, right in self.cases(203, 60):
            powers = Powers(misreading, right)
            for k in range(4):
                for text in texts("abe", 3):
                    image = image_along([misreading], (0,) * k, text)
                    self.assertIs(powers.turns(text, k), image is not None and is_right(right, image))
        self.assertIs(powers.turns(k=0, text="z"), False)

    def test_turns_with_any_value_of_text(self):
        powers = Powers(TURN, Right.words("a", ""))
        for value in any_values():
            self.assertIs(powers.turns(value, 0), value in ("a", "") and type(value) is str)
            self.assertIs(powers.turns(value, 10 ** 60 + 2), value in ("", "a") and type(value) is str)
            self.assertIs(powers.turns(value, 2), value in ("", "b") and type(value) is str)
        self.assertIs(Powers(READ("a:a"), Right.over("a")).turns("a" * 2000, 3), True)
        self.assertIs(Powers(READ("a:a"), Right.over("a")).turns("a" * 2001, 3), False)
        self.assertIs(Powers(READ("a:aaaa"), Right.over("a")).turns("a" * 2000, 10 ** 60), True)

    def test_great_numbers(self):
        powers = Powers(TURN, Right.words("a", "b"))
        self.assertEqual((powers.begin, powers.period), (0, 3))
        for k in (10 ** 40, 10 ** 69, 10 ** 60 + 1, 3 * 10 ** 50 + 2):
            self.assertEqual(powers(k), effect_of([TURN], Right.words("a", "b"), (0,) * (k % 3)))
        late = READ("a:b b:c c:d d:c")
        powers = Powers(late, Right.over("abcd"))
        self.assertEqual((powers.begin, powers.period, len(powers)), (2, 2, 4))
        self.assertEqual([powers(k) == powers(2) for k in (10 ** 40, 10 ** 40 + 1, 4, 5, 0)], [True, False, True, False, False])

    def test_wrong_numbers(self):
        powers = Powers(TURN, Right.words("a"))
        for value in [*values_but(lambda value: type(value) is int and value >= 0), -1, -10 ** 69, True, False]:
            self.assertRaisesWith(BadNumber, (value,), powers, value)
            self.assertRaisesWith(BadNumber, (value,), powers.turns, "a", value)
            self.assertRaisesWith(BadNumber, (value,), powers.turns, 5, value)

    def test_letters_that_are_barred_after_some_times(self):
        misreading = READ("a:b b:c c:d")
        powers = Powers(misreading, Right.over("abcd"))
        self.assertEqual((powers.begin, powers.period, len(powers)), (4, 1, 5))
        self.assertEqual([[powers(k)[letter] is None for letter in "abcd"] for k in range(6)],
                         [[False] * 4, [False] * 3 + [True], [False] * 2 + [True] * 2, [False] + [True] * 3,
                          [True] * 4, [True] * 4])
        self.assertEqual((Powers(Misreading({}), Right.words()).begin, len(Powers(Misreading({}), Right.words()))), (0, 1))
        self.assertEqual(len(Powers(Misreading({}), Right.words("a"))), 2)

    def test_rings(self):
        for size in range(1, 13):
            letters = "abcdefghijkl"[:size]
            ring = Misreading({letter: letters[(at + 1) % size] for at, letter in enumerate(letters)})
            powers = Powers(ring, Right.words("a"))
            self.assertEqual((powers.begin, powers.period, len(powers)), (0, size, size))
        # Rings of 3, 4 and 5 letters side by side.
        ring = READ("a:b b:c c:a d:e e:f f:g g:d h:i i:j j:k k:l l:h")
        self.assertEqual(len(Powers(ring, Right.words("a"))), 60)

    def test_just_300_and_more(self):
        misreading, right = just_300()
        powers = Powers(misreading, right)
        self.assertEqual((powers.begin, powers.period, len(powers), len(list(powers))), (20, 280, 300, 300))
        self.assertEqual(powers(10 ** 40), powers(20 + (10 ** 40 - 20) % 280))
        misreading, right = just_300(more=True)
        self.assertRaisesWith(TooMany, ("effects", 300), Powers, misreading, right)

    def test_properties(self):
        for name in ("begin", "period"):
            self.assertIs(type(vars(Powers)[name]), property)

    def test_wrong_arguments_in_their_order(self):
        for value in values_but(lambda value: isinstance(value, Misreading)):
            self.assertRaisesWith(BadTable, ("misreading",), Powers, value, 5)
        for value in values_but(lambda value: isinstance(value, Right)):
            self.assertRaisesWith(BadRight, ("right",), Powers, TURN, value)
            self.assertRaisesWith(BadRight, ("right",), Powers, just_300(more=True)[0], value)

    def test_equal_to_nothing_but_itself(self):
        powers = Powers(TURN, Right.words("a"))
        self.assertTrue(powers == powers)
        for value in any_values():
            self.assertFalse(powers == value)

    def test_powers_of_joined_misreadings(self):
        chance = random.Random(204)
        for misreading, right in self.cases(204, 20):
            try:
                twice = misreading ** 2
            except TooMany:
                continue
            powers, doubled = Powers(misreading, right), Powers(twice, right)
            k = chance.randrange(50)
            for letter in doubled(k):
                self.assertEqual(doubled(k)[letter], powers(2 * k)[letter])
