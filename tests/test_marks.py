import itertools
import unittest

from blindrepair.errors import BadList, BadNumber, BadWord, TooMany
from blindrepair.marks import least_mark, shows_mark
from blindrepair.misreadings import Misreading
from blindrepair.rights import Right
from blindrepair.verdicts import decide
from tests.helpers import Checks, any_values, is_text, texts, values_but, wrong_lists
from tests.plain_effects import image_along, plain_clash, plain_effects, rows, some_cases, turns_of_ten

READ = Misreading.read
WIDE, RING = READ("a:a c:c e:xc f:f x:xf"), READ("a:b b:c c:a")


def marked(letters, mark):
    """The set of all texts over letters with a mark ahead, as arguments of a Right that have no need of `ahead`."""
    steps = [({letter: at + 1}, False) for at, letter in enumerate(mark)]
    return Right(*steps, ({letter: len(mark) for letter in letters}, True))


def plain_calm(misreadings, letters, mark):
    """Whether there is no clash, by a second way; None if there are more than 300 effects and none of these has one."""
    right = marked(letters, mark)
    plain = plain_effects(misreadings, right, 301)
    if any(plain_clash(right, effect) is not None for row, effect in plain[:300]):
        return False
    return True if len(plain) < 301 else None


def common(misreadings):
    return [letter for letter in "abcdefghijklmnopqrstuvwxyz" if all(letter in each for each in misreadings)]


def mark_cases(seed, many):
    for misreadings, right in some_cases(seed, many, "abcd", 2, misreadings=3):
        yield misreadings, right.letters


class LeastMarkTests(Checks, unittest.TestCase):

    def test_by_a_second_way(self):
        sizes = {}
        for misreadings, letters in mark_cases(701, 60):
            for most in range(3):
                expected = None
                for mark in texts("".join(common(misreadings)), most):
                    calm = plain_calm(misreadings, letters, mark)
                    if calm is None:
                        expected = "many"
                    if calm or calm is None:
                        expected = mark if calm else "many"
                        break
                if expected == "many":
                    self.assertRaisesWith(TooMany, ("effects", 300), least_mark, misreadings, letters, most)
                else:
                    self.assertEqual(least_mark(misreadings, letters, most), expected)
                    self.assertEqual(least_mark(misreadings=tuple(misreadings), letters=letters[::-1] + letters, most=most),
                                     expected)
                sizes[expected if expected is None else len(expected)] = 1
        self.assertTrue({None, 0, 1} <= set(sizes), sizes)

    def test_marks_of_two_and_three_letters(self):
        found = set()
        for misreadings, letters in mark_cases(702, 250):
            try:
                mark = least_mark(misreadings, letters, 3)
            except TooMany:
                continue
            found.add(mark if mark is None else len(mark))
            if mark:
                self.assertTrue(plain_calm(misreadings, letters, mark))
                for other in texts("".join(common(misreadings)), len(mark)):
                    if (len(other), other) < (len(mark), mark):
                        self.assertFalse(plain_calm(misreadings, letters, other))
                self.assertIsNone(least_mark(misreadings, letters, len(mark) - 1))
        self.assertTrue({None, 0, 1, 2} <= found, found)

    def test_what_a_mark_claims_holds_of_short_texts(self):
        many = 0
        for misreadings, letters in mark_cases(703, 60):
            try:
                mark = least_mark(misreadings, letters, 1)
            except TooMany:
                continue
            if mark is None:
                continue
            many += 1
            for text in texts(letters, 2):
                for row in rows(len(misreadings), 3):
                    image = image_along(misreadings, row, mark + text)
                    if image is not None and image != mark + text:
                        self.assertFalse(image.startswith(mark) and set(image[len(mark):]) <= set(letters))
        self.assertGreater(many, 20)

    def test_told_by_hand(self):
        self.assertEqual([least_mark([WIDE], "acefx", 1), least_mark([WIDE], "acefx", 0), least_mark([WIDE], "a", 0),
                          least_mark([RING], "abc", 2)], ["e", None, "", "a"])
        # The texts without letters: there is no other text.
        self.assertEqual(least_mark([RING], "", 3), "")
        self.assertEqual(least_mark([Misreading({})], "abc", 3), "")
        # A mark can have letters that the texts have not, and only letters with images.
        self.assertEqual(least_mark([READ("a:aa z:y")], "a", 1), "z")
        self.assertIsNone(least_mark([READ("a:aa")], "az", 3))
        self.assertIsNone(least_mark([READ("a:aa z:y"), READ("a:a")], "a", 3))

    def test_most_from_0_to_3(self):
        for made, letters in (([READ("a:aa b:b")], "ab"), ([WIDE], "acefx")):
            told = [least_mark(made, letters, most) for most in range(4)]
            for most in range(3):
                self.assertTrue(told[most] is None or told[most] == told[most + 1])
        self.assertIs(type(least_mark([WIDE], "acefx", 3)), str)

    def test_more_than_300_effects(self):
        more = [*turns_of_ten(), Misreading({})]
        self.assertEqual(least_mark(turns_of_ten(), "", 3), "")
        self.assertRaisesWith(TooMany, ("effects", 300), least_mark, more, "", 3)
        self.assertRaisesWith(TooMany, ("effects", 300), shows_mark, more, "", "")
        # With the letters a and b there is a clash with the empty mark, and no other mark can be made.
        self.assertIsNone(least_mark(more, "ab", 3))
        self.assertIs(shows_mark(more, "ab", ""), False)
        self.assertIs(shows_mark(more, "", "a"), False)

    def test_wrong_arguments_in_their_order(self):
        for value, at in wrong_lists():
            self.assertRaisesWith(BadList, (at,), least_mark, value, 5, 5)
            self.assertRaisesWith(BadList, (at,), shows_mark, value, 5, 5)
        for value in [*values_but(is_text), "a" * 2001]:
            self.assertRaisesWith(BadWord, (value,), least_mark, [RING], value, 5)
            self.assertRaisesWith(BadWord, (value,), shows_mark, [RING], value, 5)
        for value in [*values_but(lambda value: type(value) is int and 0 <= value <= 3), 4, -1, True, False]:
            self.assertRaisesWith(BadNumber, (value,), least_mark, [RING], "a", value)
            self.assertRaisesWith(BadNumber, (value,), least_mark, [*turns_of_ten(), Misreading({})], "", value)


class ShowsMarkTests(Checks, unittest.TestCase):

    def test_by_a_second_way(self):
        results = set()
        for misreadings, letters in mark_cases(711, 40):
            usable = common(misreadings)
            for mark in texts("abcdz", 2):
                expected = all(letter in usable for letter in mark) and plain_calm(misreadings, letters, mark)
                if expected is None:
                    self.assertRaisesWith(TooMany, ("effects", 300), shows_mark, misreadings, letters, mark)
                else:
                    self.assertIs(shows_mark(misreadings, letters, mark), expected)
                    self.assertIs(shows_mark(misreadings=misreadings, letters=letters * 2, mark=mark), expected)
                    results.add((len(mark), expected))
        self.assertEqual(len(results), 6)

    def test_the_least_mark(self):
        for misreadings, letters in mark_cases(712, 40):
            try:
                mark = least_mark(misreadings, letters, 2)
            except TooMany:
                continue
            if mark is not None:
                self.assertIs(shows_mark(misreadings, letters, mark), True)

    def test_marks_of_6_and_7_letters(self):
        made = [READ("a:aa b:b c:y")]
        for mark, right in (("c", True), ("bc", True), ("bbbbb", False), ("bbbbbc", True), ("bbbbbbc", False),
                            ("bbbbbb", False), ("c" * 6, True), ("c" * 7, False), ("c" * 2000, False), ("c" * 2001, False)):
            self.assertIs(shows_mark(made, "ab", mark), right, mark)
        self.assertIs(shows_mark([WIDE], "acefx", "xe"), True)
        self.assertIs(shows_mark([WIDE], "acefx", "x"), False)
        self.assertIs(shows_mark([WIDE], "acefx", "z"), False)
        for size in range(8):
            for mark in itertools.islice(map("".join, itertools.product("ae", repeat=size)), 20):
                self.assertIs(shows_mark([WIDE], "acefx", mark), size < 7 and bool(decide([WIDE], marked("acefx", mark))))

    def test_the_empty_mark(self):
        self.assertIs(shows_mark([WIDE], "a", ""), True)
        self.assertIs(shows_mark([WIDE], "ae", ""), True)
        self.assertIs(shows_mark([WIDE], "acefx", ""), False)
        self.assertIs(shows_mark([Misreading({})], "abcdef", ""), True)

    def test_letters_without_an_image_by_one_of_them(self):
        made = [READ("a:b c:c z:y"), READ("a:b z:z")]
        for mark, right in (("a", True), ("z", True), ("c", False), ("az", True), ("ac", False), ("b", False)):
            self.assertIs(shows_mark(made, "", mark), right)

    def test_every_wrong_value(self):
        for value in any_values():
            self.assertIs(shows_mark([READ("a:a b:b")], "ab", value), type(value) is str and value in ("", "a", "b", "ab"))


if __name__ == "__main__":
    unittest.main()
