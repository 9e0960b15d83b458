import itertools
import random
import unittest

from blindrepair.errors import BadFixer, BadImage, BadRight, BadTable, BadWord, Barred, Merging, Ring, TooMany
from blindrepair.fixers import Fixer
from blindrepair.merging import merging
from blindrepair.misreadings import Misreading
from blindrepair.repairs import Repair
from blindrepair.rights import Right
from tests.helpers import Checks, any_values, is_text, texts, values_but
from tests.plain_effects import image_along, is_right, some_cases

READ = Misreading.read
WIDE, RING = READ("a:a c:c e:xc f:f x:xf"), READ("a:b b:c c:a")
FIXER = Fixer.of(WIDE)
GREEDY = Fixer(("xc", "e"), ("xf", "x"), ("xff", "a"))


def some_fixers(seed, many, letters="abc", longest=3):
    """Fixers over a few letters, the same ones for each seed."""
    chance = random.Random(seed)
    while many:
        pairs = {}
        for _ in range(chance.randint(1, 4)):
            row = "".join(chance.choice(letters) for _ in range(chance.randint(1, longest)))
            result = "".join(chance.choice(letters) for _ in range(chance.randint(1, len(row))))
            if row != result:
                pairs[row] = result
        if pairs:
            many -= 1
            yield Fixer(*pairs.items())


def plain_places(pairs, text):
    """The places and rows that are replaced, by trying all rows at each place."""
    found, at = [], 0
    while at < len(text):
        rows = [row for row, result in pairs if text[at:at + len(row)] == row]
        if rows:
            found.append((at, max(rows, key=len)))
            at += len(found[-1][1])
        else:
            at += 1
    return tuple(found)


def plain_once(pairs, text):
    """The text with the results, put in from the right."""
    for at, row in reversed(plain_places(pairs, text)):
        text = text[:at] + dict(pairs)[row] + text[at + len(row):]
    return text


def plain_call(pairs, text):
    """What once makes of a text again and again; None on a ring."""
    met = []
    while text not in met:
        met.append(text)
        text = plain_once(pairs, text)
    return text if text == met[-1] else None


def plain_takes_back(pairs, misreading, text):
    """Whether just the images of changed letters are replaced, each by its letter; for texts of any length."""
    expected, at = [], 0
    for letter in text:
        image = misreading[letter]
        if image != letter:
            if dict(pairs).get(image) != letter:
                return False
            expected.append((at, image))
        at += len(image)
    return plain_places(pairs, "".join(misreading[letter] for letter in text)) == tuple(expected)


def plain_stray(pairs, misreading, right, letters, most, numbers):
    """The first number and short right text at which the misreading is not taken back, None if there is none."""
    for number in range(numbers):
        for text in texts(letters, most):
            image = image_along([misreading], (0,) * number, text) if is_right(right, text) else None
            if image is not None and all(letter in misreading for letter in image):
                if not plain_takes_back(pairs, misreading, image):
                    return text, number
    return None


def stray_cases(seed, many, letters="abc"):
    """A misreading that is one to one, a Fixer that is near to taking it back, and a right set."""
    chance = random.Random(seed)
    for misreadings, right in some_cases(seed, many, letters, misreadings=1):
        misreading = misreadings[0]
        if not merging(misreading):
            continue
        pairs = {misreading[letter]: letter for letter in misreading.changed}
        for _ in range(chance.choice([0, 1, 1, 2])):
            row = "".join(chance.choice(letters) for _ in range(chance.randint(1, 4)))
            result = "".join(chance.choice(letters) for _ in range(chance.randint(1, len(row))))
            if row != result and (row not in pairs or chance.random() < 0.2):
                pairs[row] = result
        if pairs:
            yield misreading, Fixer(*pairs.items()), right


class MakingTests(Checks, unittest.TestCase):

    def test_pairs_by_rows_ascending(self):
        pairs = [("b", "a"), ("ab", "a"), ("aa", "cc"), ("a", "z"), ("abcdefgh", "hgfedcba"), ("ba", "a")]
        for order in itertools.permutations(pairs):
            fixer = Fixer(*order)
            self.assertLike(fixer.pairs, tuple(sorted(pairs)))
            self.assertEqual(list(fixer), sorted(pairs))
            self.assertLike(len(fixer), 6)
            self.assertTrue(fixer == Fixer(*pairs))
        self.assertIn("pairs", vars(fixer))

    def test_wrong_arguments_at_each_place(self):
        good = [("ab", "a"), ("bb", "aa"), ("c", "d"), ("abc", "b")]
        wrong = values_but(lambda value: type(value) is tuple and len(value) == 2 and all(map(is_text, value))
                           and 1 <= len(value[1]) <= len(value[0]) <= 8 and value[0] != value[1])
        wrong += [("x", "x"), ("x", "ab"), ("x", ""), ("", "x"), ("", ""), ("abcdefghi", "a"), ("x" * 9, "x" * 9), ("xy", "abc"),
                  ["x", "y"], ("x", "y", "z"), ("x",), "xy", ("X", "y"), ("x", "Y"), (("x", "y"),), ("x", None), (None, "x"),
                  ("x", 1), (1, "x"), ("a b", "a"), ("ab", " "), ("x" * 2001, "y"), ("x", "y" * 2001), ("x", ["y"])]
        for at in range(5):
            for value in wrong:
                self.assertRaisesWith(BadFixer, (at,), Fixer, *good[:at], value, *good[at:])
                self.assertRaisesWith(BadFixer, (at,), Fixer, *good[:at], value, *wrong)
        self.assertEqual(len(Fixer(("a", "b"))), 1)

    def test_a_row_of_one_ahead(self):
        self.assertRaisesWith(BadFixer, (1,), Fixer, ("ab", "a"), ("ab", "a"))
        self.assertRaisesWith(BadFixer, (1,), Fixer, ("ab", "a"), ("ab", "b"), 5)
        self.assertRaisesWith(BadFixer, (2,), Fixer, ("ab", "a"), ("b", "a"), ("b", "c"), ("ab", "c"))
        self.assertRaisesWith(BadFixer, (3,), Fixer, ("ab", "a"), ("b", "a"), ("a", "c"), ("ab", "c"))
        # Results can be alike, and rows of others.
        self.assertEqual(len(Fixer(("ab", "a"), ("ba", "a"), ("a", "b"), ("b", "ab"[:1]))), 4)

    def test_none_twelve_and_thirteen(self):
        self.assertRaisesWith(BadFixer, (None,), Fixer)
        pairs = [(letter, "z") for letter in "abcdefghijklm"]
        self.assertEqual(len(Fixer(*pairs[:12])), 12)
        self.assertRaisesWith(TooMany, ("pairs", 12), Fixer, *pairs)
        self.assertRaisesWith(BadFixer, (12,), Fixer, *pairs[:12], ("a", "b"))
        self.assertRaisesWith(BadFixer, (13,), Fixer, *pairs, 5)
        self.assertRaisesWith(BadFixer, (0,), Fixer, 5, *pairs)

    def test_rows_of_8_and_results_of_any_length_up_to_it(self):
        for size in range(1, 9):
            self.assertEqual(Fixer(("abcdefgh", "z" * size)).once("xabcdefghx"), "x" + "z" * size + "x")
        self.assertRaisesWith(BadFixer, (0,), Fixer, ("abcdefgh", "z" * 9))

    def test_equal(self):
        one = Fixer(("ab", "a"), ("b", "c"))
        self.assertTrue(one == Fixer(("b", "c"), ("ab", "a")))
        self.assertFalse(one != Fixer(("b", "c"), ("ab", "a")))
        for other in (Fixer(("ab", "a")), Fixer(("ab", "b"), ("b", "c")), Fixer(("ab", "a"), ("b", "c"), ("d", "e"))):
            self.assertFalse(one == other)
            self.assertTrue(one != other)
        for value in any_values() + [one.pairs]:
            self.assertFalse(one == value)
            self.assertFalse(value == one)

    def test_it_is_a_repair(self):
        self.assertTrue(issubclass(Fixer, Repair))
        for name in ("of", "__len__", "__iter__", "__eq__", "places", "once", "__call__", "spoiled", "takes_back", "stray"):
            self.assertIn(name, vars(Fixer))
        self.assertIs(type(vars(Fixer)["of"]), classmethod)


class OfTests(Checks, unittest.TestCase):

    def test_the_pairs_of_image_and_letter(self):
        self.assertLike(FIXER.pairs, (("xc", "e"), ("xf", "x")))
        for misreadings, _ in some_cases(901, 200, "abcd", misreadings=1):
            misreading = misreadings[0]
            images = [misreading[letter] for letter in misreading.changed]
            if not images:
                self.assertRaisesWith(BadFixer, (None,), Fixer.of, misreading)
            elif len(set(images)) == len(images):
                expected = tuple(sorted((misreading[letter], letter) for letter in misreading.changed))
                self.assertLike(Fixer.of(misreading=misreading).pairs, expected)
            else:
                again = [letter for at, letter in enumerate(misreading.changed) if images[at] in images[:at]]
                self.assertRaisesWith(BadImage, (again[0],), Fixer.of, misreading)

    def test_images_of_8_and_9_letters(self):
        eight, nine = READ("a:ab b:b") ** 7, READ("a:ab b:b") ** 8
        self.assertLike(Fixer.of(eight).pairs, (("abbbbbbb", "a"),))
        self.assertRaisesWith(BadImage, ("a",), Fixer.of, nine)
        self.assertRaisesWith(BadImage, ("d",), Fixer.of, READ("d:de e:e") ** 8 | READ("f:xy g:xy"))
        self.assertRaisesWith(BadImage, ("e",), Fixer.of, READ("e:ef f:ff") ** 6)

    def test_the_least_of_both_kinds(self):
        nine = READ("b:b m:mb") ** 8
        # e has the image of c, and m has more than 8 letters; the least letter is told.
        self.assertRaisesWith(BadImage, ("e",), Fixer.of, READ("c:xy e:xy") | nine)
        self.assertRaisesWith(BadImage, ("m",), Fixer.of, READ("n:xy o:xy") | nine)
        self.assertRaisesWith(BadImage, ("m",), Fixer.of, READ("c:xy o:xy") | nine)
        # Two images of 9 letters that are alike.
        self.assertRaisesWith(BadImage, ("m",), Fixer.of, nine | READ("n:m") >> nine)

    def test_letters_that_stay(self):
        # a stays, so its image is none of those of lesser letters that are changed.
        self.assertLike(Fixer.of(READ("a:a b:a c:c")).pairs, (("a", "b"),))
        self.assertRaisesWith(BadFixer, (None,), Fixer.of, Misreading.same("abc"))
        self.assertRaisesWith(BadFixer, (None,), Fixer.of, Misreading({}))
        self.assertEqual(len(Fixer.of(READ("a:b b:c c:d d:e e:f f:g g:h h:i i:j j:k k:l l:a"))), 12)

    def test_wrong_misreadings(self):
        for value in values_but(lambda value: isinstance(value, Misreading)):
            self.assertRaisesWith(BadTable, ("misreading",), Fixer.of, value)


class PlacesTests(Checks, unittest.TestCase):

    def test_against_all_short_texts(self):
        for fixer in some_fixers(911, 80):
            for text in texts("abc", 5):
                self.assertLike(fixer.places(text=text), plain_places(fixer.pairs, text))
                self.assertLike(fixer.once(text=text), plain_once(fixer.pairs, text))
                expected = plain_call(fixer.pairs, text)
                if expected is None:
                    self.assertRaisesWith(Ring, (text,), fixer, text)
                else:
                    self.assertLike(fixer(text=text), expected)

    def test_rows_within_and_behind_others_and_at_the_ends(self):
        fixer = Fixer(("ab", "x"), ("abab", "yy"), ("b", "z"), ("bc", "w"), ("cab", "v"))
        for text, places, once in (("ababab", ((0, "abab"), (4, "ab")), "yyx"), ("ab", ((0, "ab"),), "x"), ("b", ((0, "b"),), "z"),
                                   ("aba", ((0, "ab"),), "xa"), ("ccab", ((1, "cab"),), "cv"), ("abc", ((0, "ab"),), "xc"),
                                   ("bcab", ((0, "bc"), (2, "ab")), "wx"), ("", (), ""), ("a", (), "a"), ("aab", ((1, "ab"),), "ax"),
                                   ("bb", ((0, "b"), (1, "b")), "zz"), ("cabab", ((0, "cab"), (3, "ab")), "vx"),
                                   ("dabd", ((1, "ab"),), "dxd"), ("ababc", ((0, "abab"),), "yyc")):
            self.assertLike(fixer.places(text), places)
            self.assertLike(fixer.once(text), once)

    def test_wrong_texts(self):
        for value in [*values_but(is_text), "a" * 2001]:
            self.assertRaisesWith(BadWord, (value,), FIXER.places, value)
            self.assertRaisesWith(BadWord, (value,), FIXER.once, value)
            self.assertRaisesWith(BadWord, (value,), FIXER, value)

    def test_long_texts(self):
        self.assertEqual(FIXER.once("xf" * 1000), "x" * 1000)
        self.assertEqual(len(FIXER.places("xf" * 1000)), 1000)
        self.assertEqual(FIXER("x" + "f" * 500), "x")
        self.assertEqual(Fixer(("a", "b"))("a" * 2000), "b" * 2000)
        self.assertEqual(Fixer(("ab", "ba"))("a" * 30 + "b" * 30), "b" * 30 + "a" * 30)


class CallTests(Checks, unittest.TestCase):

    def test_rings(self):
        turn = Fixer(("a", "b"), ("b", "c"), ("c", "a"))
        for text in ("a", "b", "abc", "xax", "aaaa"):
            self.assertRaisesWith(Ring, (text,), turn, text)
        for text in ("", "x", "xyz"):
            self.assertEqual(turn(text), text)
        # A line that leads into a ring: the error tells the text that was passed.
        into = Fixer(("d", "e"), ("e", "f"), ("f", "a"), ("a", "b"), ("b", "a"))
        for text in ("d", "e", "f", "a", "dzz"):
            self.assertRaisesWith(Ring, (text,), into, text)
        # Rings of 12, of 60 and of 2 behind a row that gets shorter.
        twelve = Fixer(*[(one, other) for one, other in zip("abcdefghijkl", "bcdefghijkla")])
        self.assertRaisesWith(Ring, ("a",), twelve, "a")
        many = Fixer(*[(one, other) for one, other in zip("abcdefghijkl", "bcaefgdijklh")])
        self.assertRaisesWith(Ring, ("adh",), many, "adh")
        self.assertRaisesWith(Ring, ("xxxxxa",), Fixer(("xx", "x"), ("a", "b"), ("b", "a")), "xxxxxa")

    def test_texts_that_come_to_rest_behind_many_steps(self):
        line = Fixer(*[(one, other) for one, other in zip("abcdefghijkl", "bcdefghijklm")])
        for text in ("a", "b", "l", "m", "al", "adg"):
            self.assertEqual(line(text), "m" * len(text))
        for many in range(40):
            self.assertEqual(Fixer(("xf", "x"))("x" + "f" * many), "x")

    def test_texts_that_grow_less(self):
        fixer = Fixer(("abc", "ab"), ("ab", "c"), ("cc", "a"))
        for text in texts("abc", 7):
            expected = plain_call(fixer.pairs, text)
            if expected is None:
                self.assertRaisesWith(Ring, (text,), fixer, text)
            else:
                self.assertEqual(fixer(text), expected)
                self.assertLessEqual(len(expected), len(text))


class SpoiledTests(Checks, unittest.TestCase):

    def test_against_a_search(self):
        sizes = set()
        for fixer, (misreadings, right) in zip(some_fixers(921, 400), some_cases(921, 400, "abc")):
            found = fixer.spoiled(right=right)
            expected = [text for text in texts("abc", 5) if is_right(right, text)
                        and any(row in text for row, result in fixer.pairs)]
            if expected:
                self.assertEqual(found, expected[0])
                sizes.add(len(found))
            else:
                self.assertTrue(found is None or len(found) > 5)
                sizes.add(None)
        self.assertTrue({None, 1, 2, 3, 4} <= sizes, sizes)

    def test_told_by_hand(self):
        self.assertEqual(FIXER.spoiled(Right.over("acex")), "xc")
        self.assertEqual(FIXER.spoiled(Right.over("aefx")), "xf")
        self.assertIsNone(FIXER.spoiled(Right.over("ae")))
        self.assertIsNone(FIXER.spoiled(Right.words()))
        self.assertEqual(FIXER.spoiled(Right.words("aaxf", "bxc", "x", "c")), "bxc")
        # A row called start, and rows one within another one.
        self.assertEqual(Fixer(("xstart", "x")).spoiled(Right.words("start", "xstart", "art")), "xstart")
        self.assertIsNone(Fixer(("xstart", "x")).spoiled(Right.words("start", "tart")))
        self.assertEqual(Fixer(("aabaa", "x"), ("b", "x")).spoiled(Right.words("aabaa")), "aabaa")
        self.assertEqual(Fixer(("aab", "x")).spoiled(Right.words("aaaab", "aabaa")), "aaaab")
        self.assertEqual(Fixer(("abcdefgh", "x")).spoiled(Right.over("abcdefgh")), "abcdefgh")

    def test_a_text_on_a_ring_is_spoiled(self):
        self.assertEqual(Fixer(("a", "b"), ("b", "a")).spoiled(Right.words("b")), "b")

    def test_wrong_right_sets(self):
        for value in values_but(lambda value: isinstance(value, Right)):
            self.assertRaisesWith(BadRight, ("right",), FIXER.spoiled, value)


class TakesBackTests(Checks, unittest.TestCase):

    def test_against_a_plain_way(self):
        results = {True: 0, False: 0}
        for misreading, fixer, _ in stray_cases(931, 300):
            for text in texts("".join(misreading), 4):
                expected = plain_takes_back(fixer.pairs, misreading, text)
                self.assertIs(fixer.takes_back(misreading=misreading, text=text), expected)
                if expected:
                    self.assertEqual(fixer.once(misreading(text)), text)
                results[expected] += 1
        self.assertGreater(min(results.values()), 1000)

    def test_misreadings_that_are_not_one_to_one(self):
        both = READ("a:x b:x c:c")
        fixer = Fixer(("x", "a"))
        for text, expected in (("a", True), ("b", False), ("ac", True), ("ab", False), ("", True), ("c", True)):
            self.assertIs(fixer.takes_back(both, text), expected)

    def test_told_by_hand(self):
        for text, expected in (("xc", True), ("e", True), ("", True), ("xfc", False), ("xf", False), ("x", True), ("ca", True)):
            self.assertIs(GREEDY.takes_back(WIDE, text), expected)
        # The right rows are replaced, but not each by its letter.
        self.assertIs(Fixer(("xc", "x"), ("xf", "e")).takes_back(WIDE, "e"), False)
        self.assertIs(Fixer(("xc", "x"), ("xf", "e")).takes_back(WIDE, "a"), True)
        # A letter that stays is replaced; a row stands across two images.
        self.assertIs(Fixer(("xc", "e"), ("xf", "x"), ("a", "b")).takes_back(WIDE, "ea"), False)
        self.assertIs(Fixer(("xc", "e"), ("xf", "x"), ("ca", "b")).takes_back(WIDE, "ca"), False)
        self.assertIs(Fixer(("xc", "e"), ("xf", "x"), ("ca", "b")).takes_back(WIDE, "ea"), True)
        # An image of more than 8 letters is no row.
        nine = READ("a:ab b:b") ** 8
        self.assertIs(Fixer(("abbbbbbb", "a")).takes_back(nine, "a"), False)
        self.assertIs(Fixer(("abbbbbbb", "a")).takes_back(nine, "b"), True)
        self.assertIs(Fixer(("abbbbbbb", "a")).takes_back(READ("a:ab b:b") ** 7, "ab"), True)

    def test_errors_in_their_order(self):
        for value in values_but(lambda value: isinstance(value, Misreading)):
            self.assertRaisesWith(BadTable, ("misreading",), FIXER.takes_back, value, 5)
        for value in [*values_but(is_text), "a" * 2001]:
            self.assertRaisesWith(BadWord, (value,), FIXER.takes_back, WIDE, value)
        self.assertRaisesWith(Barred, (2,), FIXER.takes_back, WIDE, "aeza")
        self.assertRaisesWith(Barred, (1999,), FIXER.takes_back, WIDE, "e" * 1999 + "z")
        self.assertRaisesWith(TooMany, ("signs", 2000), FIXER.takes_back, WIDE, "e" * 1001)
        self.assertIs(FIXER.takes_back(WIDE, "e" * 1000), True)


class StrayTests(Checks, unittest.TestCase):

    def test_against_a_plain_way(self):
        results = set()
        for misreading, fixer, right in stray_cases(941, 500):
            found = fixer.stray(misreading=misreading, right=right)
            expected = plain_stray(fixer.pairs, misreading, right, "abc", 4, 4)
            if expected is None:
                self.assertTrue(found is None or len(found[0]) > 4 or found[1] > 3)
            elif found is None or found[1] != expected[1]:
                # A longer text with a lesser number.
                self.assertTrue(found is not None and found[1] < expected[1] and len(found[0]) > 4, (found, expected))
            else:
                self.assertLike(found, expected)
            if found is not None:
                self.assert_stray(fixer, misreading, right, *found)
            results.add(found and (min(len(found[0]), 3), min(found[1], 2)))
        self.assertTrue({None, (1, 0), (2, 0), (3, 0), (2, 1), (1, 2)} <= results, results)

    def assert_stray(self, fixer, misreading, right, text, number):
        self.assertTrue(is_right(right, text))
        image = image_along([misreading], (0,) * number, text)
        self.assertTrue(all(letter in misreading for letter in image))
        self.assertIs(plain_takes_back(fixer.pairs, misreading, image), False)

    def test_near_misses_of_fixers_with_longer_rows(self):
        results = set()
        chance = random.Random(942)
        told = [READ("a:a c:c e:xc f:f x:xf"), READ("c:c e:fx f:f x:cx"),
                READ("a:ab b:b c:c"), READ("a:bc b:b c:c"), READ("a:b b:a f:f x:xf"), READ("a:ba b:b"), READ("a:aba b:c c:b")]
        for _ in range(400):
            misreading = chance.choice(told)
            if not merging(misreading):
                continue
            letters = "".join(misreading)
            pairs = {misreading[letter]: letter for letter in misreading.changed}
            seed = "".join(chance.choice(letters) for _ in range(3))
            image = image_along([misreading], (0,) * chance.randint(1, 4), seed)
            at = chance.randrange(len(image))
            row = image[at:at + chance.randint(1, 8)]
            if row not in pairs and row != letters[0]:
                pairs[row] = letters[0]
            fixer = Fixer(*pairs.items())
            right = chance.choice([Right.over(letters), Right.over(letters[0]), Right.over(letters[-1]), Right.words(*letters),
                                   Right.avoiding(letters, letters[0] + letters[1])])
            found = fixer.stray(misreading, right)
            expected = plain_stray(fixer.pairs, misreading, right, letters, 3, 6)
            if found is not None:
                self.assert_stray(fixer, misreading, right, *found)
            if found is None or (len(found[0]) <= 3 and found[1] < 6):
                self.assertLike(found, expected)
            results.add(found and (len(found[0]), found[1]))
        self.assertTrue({None, (1, 0), (1, 1), (2, 0), (1, 2), (1, 3)} <= results, results)

    def test_told_by_hand(self):
        self.assertIsNone(FIXER.stray(WIDE, Right.over("ae")))
        self.assertLike(GREEDY.stray(WIDE, Right.over("ae")), ("e", 2))
        self.assertLike(GREEDY.stray(WIDE, Right.over("aex")), ("x", 1))
        self.assertLike(GREEDY.stray(WIDE, Right.words("xf", "e")), ("xf", 0))
        self.assertIsNone(GREEDY.stray(WIDE, Right.over("af")))
        self.assertIsNone(GREEDY.stray(WIDE, Right.words()))
        # Letters to which the misreading cannot happen stand in no text that counts.
        self.assertIsNone(GREEDY.stray(WIDE, Right.words("xfz", "z", "ze")))
        self.assertLike(Fixer(("xc", "e")).stray(WIDE, Right.over("ae")), ("e", 1))
        self.assertLike(Fixer(("xf", "x")).stray(WIDE, Right.over("ae")), ("e", 0))

    def test_misreadings_that_can_happen_a_few_times(self):
        once = READ("a:b b:c")
        # a is b, then c, then barred: number 1 is b, and c is the image of it.
        self.assertIsNone(Fixer(("b", "a"), ("c", "b")).stray(once, Right.words("a")))
        self.assertLike(Fixer(("b", "a")).stray(once, Right.words("a")), ("a", 1))
        self.assertLike(Fixer(("b", "a")).stray(once, Right.words("a", "b")), ("b", 0))
        self.assertIsNone(Fixer(("b", "a")).stray(READ("a:b"), Right.words("a", "c", "aaa")))
        self.assertLike(Fixer(("b", "a"), ("bb", "c")).stray(READ("a:b"), Right.words("a", "c", "aaa")), ("aaa", 0))

    def test_texts_that_become_long(self):
        # Behind k misreadings a is 2 ** k letters a; the row of 8 letters is never at the beginning of an image.
        two = READ("a:aa b:b")
        self.assertLike(Fixer(("aa", "a"), ("aaaaaaaa", "b")).stray(two, Right.words("a")), ("a", 2))
        self.assertLike(Fixer(("aa", "a"), ("aaaab", "b")).stray(two, Right.words("ab")), ("ab", 1))
        self.assertIsNone(Fixer(("aa", "a"), ("baab", "b")).stray(two, Right.words("aab", "ba")))
        self.assertLike(Fixer(("aa", "a"), ("baab", "b")).stray(two, Right.words("bab", "ba")), ("bab", 0))
        self.assertIsNone(Fixer(("aa", "a"), ("aab", "c")).stray(two, Right.over("a")))
        # A row that stands only behind some turns of a ring, and only where letters meet.
        ring = READ("a:b b:c c:d d:e e:a")
        pairs = [("b", "a"), ("c", "b"), ("d", "c"), ("e", "d"), ("a", "e")]
        self.assertIsNone(Fixer(*pairs).stray(ring, Right.over("abcde")))
        for number, row in enumerate(("bd", "ce", "da", "eb", "ac")):
            self.assertLike(Fixer(*pairs, (row, "zz")).stray(ring, Right.words("ac", "aa", "b")), ("ac", number))

    def test_two_rings_and_their_common_times(self):
        turns = READ("a:b b:c c:a d:e e:f f:g g:d")
        pairs = [(turns[letter], letter) for letter in turns]
        number = next(k for k in range(12) if "abc"[(k + 1) % 3] == "a" and "defg"[(k + 1) % 4] == "d")
        self.assertLike(Fixer(*pairs, ("ad", "zz")).stray(turns, Right.words("ad")), ("ad", number))
        self.assertEqual(number, 11)
        # Letters that come to stand side by side at no time.
        self.assertIsNone(Fixer(*pairs, ("aa", "zz")).stray(turns, Right.words("ad", "abc")))

    def test_the_first_text(self):
        # With the number 0 there are several texts: the shortest one, and of those the first one.
        fixer = Fixer(("xc", "e"), ("xf", "x"), ("xca", "a"), ("xcc", "a"))
        self.assertLike(fixer.stray(WIDE, Right.over("ace")), ("ea", 0))
        self.assertLike(fixer.stray(WIDE, Right.words("aaec", "ec", "cea", "ce")), ("ec", 0))
        self.assertLike(fixer.stray(WIDE, Right.words("aec", "cea", "ce")), ("aec", 0))

    def test_the_least_pair_is_that_of_the_least_number(self):
        fixer = Fixer(("xc", "e"), ("xf", "x"), ("xff", "a"), ("xca", "f"))
        self.assertLike(fixer.stray(WIDE, Right.words("x", "cccea")), ("cccea", 0))
        self.assertLike(fixer.stray(WIDE, Right.words("x", "ccce")), ("x", 1))

    def test_errors_in_their_order(self):
        for value in values_but(lambda value: isinstance(value, Misreading)):
            self.assertRaisesWith(BadTable, ("misreading",), FIXER.stray, value, 5)
        both = READ("a:x b:x")
        for value in values_but(lambda value: isinstance(value, Right)):
            self.assertRaisesWith(BadRight, ("right",), FIXER.stray, both, value)
        found = merging(both)
        self.assertRaisesWith(Merging, (found.one, found.other), FIXER.stray, both, Right.over("a"))
        self.assertRaisesWith(TooMany, ("image", 8), FIXER.stray, READ("a:ab b:b") ** 8, Right.over("a"))

    def test_misreadings_that_change_nothing(self):
        for misreading in (Misreading({}), Misreading.same("ab")):
            self.assertIsNone(FIXER.stray(misreading, Right.over("ab")))
        self.assertLike(Fixer(("ab", "c")).stray(Misreading.same("ab"), Right.over("ab")), ("ab", 0))


class FactTests(Checks, unittest.TestCase):

    def test_the_fixer_tells_the_right_text(self):
        """If no right text is spoiled and stray is None, the fixer makes the right text of all that comes of it."""
        many = 0
        for misreading, fixer, right in stray_cases(951, 3000):
            if fixer.spoiled(right) is None and fixer.stray(misreading, right) is None:
                for text in right.texts(3):
                    image = text
                    for _ in range(4):
                        self.assertEqual(fixer(image), text)
                        many += image != text
                        if len(image) > 60 or any(letter not in misreading for letter in image):
                            break
                        image = image_along([misreading], (0,), image)
        self.assertGreater(many, 100)

    def test_without_one_of_both_it_does_not(self):
        self.assertEqual(FIXER("xc"), "e")
        self.assertEqual(GREEDY("xffc"), "ac")


if __name__ == "__main__":
    unittest.main()
