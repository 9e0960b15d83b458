import random
import unittest

from blindrepair.errors import (BadImage, BadLetter, BadNumber, BadTable, BadText, BadWord, Barred, TooMany, Unlike)
from blindrepair.misreadings import Misreading
from tests.helpers import Checks, any_values, is_letter, is_text, texts, values_but

TWELVE = "abcdefghijkl"


def once():
    return Misreading({"e": "xc", "x": "xf", "c": "c", "f": "f"})


def images_of(misreading):
    return {letter: misreading[letter] for letter in misreading}


def some_misreadings(seed, many, longest=4):
    """Small misreadings over a, b and c, the same ones for each seed."""
    chance = random.Random(seed)
    for _ in range(many):
        images = {}
        for letter in "abc":
            if chance.random() < 0.8:
                size = chance.randint(1, longest)
                images[letter] = "".join(chance.choice("abc") for _ in range(size)) if chance.random() < 0.7 else letter
        yield Misreading(images)


class MakingTests(Checks, unittest.TestCase):

    def test_images_and_what_is_kept(self):
        made = Misreading({"a": "bc", "d": "d"}, "ade")
        self.assertEqual(images_of(made), {"a": "bc", "d": "d", "e": "e"})
        self.assertEqual(images_of(Misreading(keeps="ba", images={})), {"a": "a", "b": "b"})
        self.assertEqual(images_of(Misreading({})), {})
        self.assertEqual(images_of(Misreading({}, "aaabb")), {"a": "a", "b": "b"})

    def test_images_of_one_to_four_letters(self):
        for image in ("b", "bc", "bcd", "bcde"):
            self.assertEqual(Misreading({"a": image})["a"], image)
        for image in ("", "bcdef", "b" * 2000, "b" * 2001):
            self.assertRaisesWith(BadImage, ("a",), Misreading, {"a": image})

    def test_no_twelve_and_thirteen_letters(self):
        self.assertEqual(len(Misreading({})), 0)
        self.assertEqual(len(Misreading({letter: "z" for letter in TWELVE})), 12)
        self.assertEqual(len(Misreading({}, TWELVE * 3)), 12)
        self.assertRaisesWith(TooMany, ("letters", 12), Misreading, {letter: "z" for letter in TWELVE + "m"})
        self.assertRaisesWith(TooMany, ("letters", 12), Misreading, {}, TWELVE + "m")
        self.assertRaisesWith(TooMany, ("letters", 12), Misreading, {"z": "z"}, TWELVE)
        self.assertEqual(len(Misreading({"a": "z"}, TWELVE)), 12)

    def test_what_is_no_dict(self):
        for value in values_but(lambda value: type(value) is dict):
            self.assertRaisesWith(BadTable, ("images",), Misreading, value)
            self.assertRaisesWith(BadTable, ("images",), Misreading, value, 5)

    def test_keys_that_are_no_letters(self):
        for key in (None, True, 1, "", "ab", "A", " ", "-", (), ("a",), 10 ** 69):
            self.assertRaisesWith(BadLetter, (key,), Misreading, {key: "a"})
            self.assertRaisesWith(BadLetter, (key,), Misreading, {"a": 5, key: "", "B": "a"}, 5)
        self.assertRaisesWith(BadLetter, ("B",), Misreading, {"z": "a", "B": "a", "A": "a"})

    def test_images_that_are_none(self):
        for value in values_but(lambda value: is_text(value) and 1 <= len(value) <= 4):
            self.assertRaisesWith(BadImage, ("b",), Misreading, {"c": 5, "b": value, "a": "a"})
        self.assertRaisesWith(BadImage, ("b",), Misreading, {"z": "", "c": "abcde", "b": 1}, 5)

    def test_what_is_kept_is_a_text(self):
        for value in values_but(is_text):
            self.assertRaisesWith(BadWord, (value,), Misreading, {"a": "b"}, value)
        self.assertRaisesWith(BadWord, ("a" * 2001,), Misreading, {}, keeps="a" * 2001)
        self.assertRaisesWith(BadWord, (TWELVE + "M",), Misreading, {"z": "a"}, TWELVE + "M")

    def test_later_changes_to_the_dict(self):
        images = {"a": "b"}
        made = Misreading(images)
        images["a"] = "c"
        images["d"] = "d"
        self.assertEqual(images_of(made), {"a": "b"})
        self.assertEqual(images, {"a": "c", "d": "d"})
        self.assertEqual(made.changed, ("a",))


class LookingTests(Checks, unittest.TestCase):

    def test_iteration_len_in_and_changed(self):
        made = Misreading({"x": "xf", "e": "xc", "c": "c", "f": "f"})
        self.assertEqual(list(made), ["c", "e", "f", "x"])
        self.assertEqual(len(made), 4)
        self.assertLike(made.changed, ("e", "x"))
        self.assertLike(Misreading.same("ab").changed, ())
        for value in any_values():
            self.assertIs(value in made, False)
        self.assertIs("e" in made, True)
        self.assertIs("ex" in made, False)

    def test_item(self):
        made = once()
        self.assertEqual(made["e"], "xc")
        for value in values_but(is_letter):
            self.assertRaisesWith(BadLetter, (value,), made.__getitem__, value)
        self.assertRaisesWith(Barred, (0,), made.__getitem__, "a")

    def test_str(self):
        self.assertEqual(str(once()), "c:c e:xc f:f x:xf")
        self.assertEqual(str(Misreading({})), "-")
        self.assertEqual(str(Misreading({"b": "a"})), "b:a")

    def test_equal(self):
        self.assertTrue(once() == once())
        self.assertFalse(once() != once())
        self.assertFalse(once() == Misreading.same("cefx"))
        self.assertFalse(Misreading({"a": "a"}) == Misreading({"a": "a", "b": "b"}))
        for value in values_but(lambda value: isinstance(value, Misreading)):
            self.assertFalse(Misreading({}) == value)
            self.assertFalse(value == Misreading({}))
        self.assertFalse(once() == {"e": "xc", "x": "xf", "c": "c", "f": "f"})

    def test_only_and_same(self):
        self.assertEqual(str(once().only("aex")), "e:xc x:xf")
        self.assertEqual(str(once().only("xxe")), "e:xc x:xf")
        self.assertEqual(str(once().only("")), "-")
        self.assertEqual(len((once() ** 20).only("e")["e"]), 21)
        self.assertEqual(str(Misreading.same("ba")), "a:a b:b")
        self.assertEqual(str(Misreading.same("")), "-")
        self.assertEqual(Misreading.same(letters=TWELVE), Misreading({}, TWELVE))
        for value in values_but(is_text):
            self.assertRaisesWith(BadWord, (value,), once().only, value)
            self.assertRaisesWith(BadWord, (value,), Misreading.same, value)
        self.assertRaisesWith(TooMany, ("letters", 12), Misreading.same, TWELVE + "m")


class HappeningTests(Checks, unittest.TestCase):

    def test_the_image_of_all_short_texts(self):
        for misreading in some_misreadings(1, 40):
            images = images_of(misreading)
            for text in texts("abcd", 4):
                barred = [at for at, letter in enumerate(text) if letter not in images]
                if barred:
                    self.assertRaisesWith(Barred, (barred[0],), misreading, text)
                    self.assertIsNone(misreading.step(text))
                else:
                    image = "".join(images[letter] for letter in text)
                    self.assertEqual(misreading(text), image)
                    self.assertEqual(misreading.step(text), None if image == text else image)

    def test_texts_of_none_and_2000_letters(self):
        made = Misreading({"a": "b", "b": "bb"})
        self.assertEqual(made(""), "")
        self.assertIsNone(made.step(""))
        self.assertEqual(made("a" * 2000), "b" * 2000)
        self.assertEqual(made(text="b" * 1000), "b" * 2000)
        self.assertEqual(made.step(text="b" * 1000), "b" * 2000)

    def test_images_that_are_too_long(self):
        made = Misreading({"a": "b", "b": "bb", "c": "c"})
        for text in ("b" * 1001, "a" + "b" * 1000, "b" * 2000):
            self.assertRaisesWith(TooMany, ("signs", 2000), made, text)
            self.assertRaisesWith(TooMany, ("signs", 2000), made.step, text)
        self.assertRaisesWith(Barred, (1999,), made, "b" * 1999 + "d")
        self.assertIsNone(made.step("b" * 1999 + "d"))

    def test_what_is_no_text(self):
        for value in [*values_but(is_text), "a" * 2001, "b" * 1999 + "B"]:
            self.assertRaisesWith(BadWord, (value,), once(), value)
            self.assertRaisesWith(BadWord, (value,), once().step, value)

    def test_the_first_barred_letter(self):
        self.assertRaisesWith(Barred, (1,), once(), "eac")
        self.assertRaisesWith(Barred, (0,), Misreading({}), "a")


class OperatorTests(Checks, unittest.TestCase):

    def test_one_behind_the_other_for_all_short_texts(self):
        made = list(some_misreadings(2, 12))
        for one in made:
            for other in made:
                joined = one >> other
                for letter in "abcd":
                    if letter in one and all(each in other for each in one[letter]):
                        self.assertEqual(joined[letter], other(one[letter]))
                    else:
                        self.assertFalse(letter in joined)
                self.assertEqual(joined.changed, tuple(each for each in joined if joined[each] != each))

    def test_powers(self):
        for made in some_misreadings(3, 20, longest=2):
            expected = made
            for number in range(1, 6):
                self.assertEqual(made ** number, expected)
                expected = expected >> made
        self.assertEqual(once() ** 1, once())
        self.assertEqual((once() ** 3)["e"], "xffc")
        turn = Misreading.read("a:b b:c c:a")
        self.assertEqual(turn ** 99, turn ** 3)
        self.assertEqual(turn ** 98, turn ** 2)

    def test_wrong_powers(self):
        fits = range(1, 100)
        for value in [*values_but(lambda value: type(value) is int and value in fits), 0, 100, True, -1]:
            self.assertRaisesWith(BadNumber, (value,), lambda: once() ** value)

    def test_images_of_64_and_65_letters(self):
        double = Misreading({"a": "aa"})
        self.assertEqual((double ** 6)["a"], "a" * 64)
        self.assertEqual(((double ** 3) >> (double ** 3))["a"], "a" * 64)
        self.assertRaisesWith(TooMany, ("image", 64), lambda: double ** 7)
        self.assertRaisesWith(TooMany, ("image", 64), lambda: (double ** 6) >> double)
        more = Misreading({"a": "aa", "b": "b"}) ** 6 >> Misreading.read("a:a b:b")
        self.assertRaisesWith(TooMany, ("image", 64), lambda: Misreading({"c": "ab"}) >> more)
        self.assertEqual(len(((Misreading({"e": "ef"}, "f")) ** 63)["e"]), 64)
        self.assertRaisesWith(TooMany, ("image", 64), lambda: Misreading({"e": "ef"}, "f") ** 64)

    def test_a_long_image_on_the_way(self):
        # Behind six of them c would be barred, but behind five of them its image is too long already.
        chain = Misreading({"a": "bbbb", "b": "cccc", "c": "dddd", "d": "eeee", "e": "f"})
        self.assertEqual(len((chain ** 3)["a"]), 64)
        self.assertRaisesWith(TooMany, ("image", 64), lambda: chain ** 4)
        self.assertRaisesWith(TooMany, ("image", 64), lambda: chain ** 99)

    def test_texts_by_long_images(self):
        long = Misreading({"a": "aa"}) ** 6
        self.assertEqual(long("a" * 31), "a" * 1984)
        self.assertRaisesWith(TooMany, ("signs", 2000), long, "a" * 32)

    def test_both(self):
        one, other = Misreading({"a": "b", "c": "d"}), Misreading({"c": "d", "e": "f"})
        self.assertEqual(str(one | other), "a:b c:d e:f")
        self.assertEqual(one | other, other | one)
        self.assertEqual(str((once() ** 9) | Misreading({"a": "a"}))[:4], "a:a ")
        self.assertRaisesWith(Unlike, ("b",), lambda: Misreading.same("acb") | Misreading({"b": "c", "c": "b"}))
        self.assertRaisesWith(TooMany, ("letters", 12), lambda: Misreading.same(TWELVE) | Misreading.same("mn"))
        self.assertRaisesWith(Unlike, ("a",), lambda: Misreading.same(TWELVE) | Misreading({"a": "b", "m": "m"}))
        self.assertEqual(len(Misreading.same(TWELVE) | Misreading.same("al")), 12)

    def test_part_of(self):
        self.assertIs(Misreading.same("fc") <= once(), True)
        self.assertIs(once() <= once(), True)
        self.assertIs(Misreading({}) <= once(), True)
        self.assertIs(Misreading.same("cefx") <= once(), False)
        self.assertIs(once() <= Misreading.same("fc"), False)
        self.assertIs(once() >= Misreading.same("fc"), True)

    def test_other_values_on_the_right(self):
        for value in values_but(lambda value: isinstance(value, Misreading)):
            self.assertRaisesWith(BadTable, ("other",), lambda: once() >> value)
            self.assertRaisesWith(BadTable, ("other",), lambda: once() | value)
            self.assertRaisesWith(BadTable, ("other",), lambda: once() <= value)

    def test_in_place_forms_bind_the_name(self):
        made = first = once()
        made >>= once()
        self.assertEqual(made, once() >> once())
        made **= 2
        self.assertEqual(made, once() ** 4)
        made |= Misreading({"a": "b"})
        self.assertEqual(made["a"], "b")
        self.assertEqual(first, once())
        self.assertEqual(str(first), "c:c e:xc f:f x:xf")


class ReadTests(Checks, unittest.TestCase):

    def test_right_texts(self):
        for text in ("-", "a:a", "a:bcde", "c:c e:xc f:f x:xf", "a:b b:c c:a", "z:z",
                     " ".join(f"{letter}:z" for letter in TWELVE)):
            self.assertEqual(str(Misreading.read(text)), text)
        for misreading in some_misreadings(4, 50):
            self.assertEqual(Misreading.read(str(misreading)), misreading)
        self.assertEqual(Misreading.read(text="a:b")["a"], "b")

    def test_wrong_words_at_each_place(self):
        right = ["a:b", "c:def", "e:e", "g:hhhh"]
        wrong = ["", "a", ":", "h:", "h:abcde", "h:A", "H:a", "h;a", "hh:a", "h::a", "h: a", "1:a", "h:1", "-", "h:-",
                 "h:a\n", "\nh:a", "h:a\tb", " h:a", "a:b:c", "end"]
        for at in range(5):
            for word in wrong:
                words = right[:at] + [word] + right[at:]
                if word == "-" and at == 0:
                    self.assertRaisesWith(BadText, (0, 1), Misreading.read, " ".join(words))
                else:
                    self.assertRaisesWith(BadText, (0, at), Misreading.read, " ".join(words))

    def test_letters_that_do_not_ascend(self):
        self.assertRaisesWith(BadText, (0, 1), Misreading.read, "a:b a:b")
        self.assertRaisesWith(BadText, (0, 1), Misreading.read, "b:b a:b")
        self.assertRaisesWith(BadText, (0, 2), Misreading.read, "a:b c:b b:b d:d")

    def test_words_that_are_too_many(self):
        words = [f"{letter}:z" for letter in TWELVE]
        for more in ("m:z", "", "x", "m:z n:z"):
            self.assertRaisesWith(BadText, (0, 12), Misreading.read, " ".join([*words, more]))
        self.assertRaisesWith(BadText, (0, 3), Misreading.read, " ".join([*words[:3], "A:z", *words[3:], "m:z"]))

    def test_empty_words_and_the_dash(self):
        self.assertRaisesWith(BadText, (0, 0), Misreading.read, "")
        self.assertRaisesWith(BadText, (0, 0), Misreading.read, " ")
        self.assertRaisesWith(BadText, (0, 0), Misreading.read, " a:b")
        self.assertRaisesWith(BadText, (0, 1), Misreading.read, "a:b ")
        self.assertRaisesWith(BadText, (0, 1), Misreading.read, "a:b  c:d")
        for text in ("- ", "- -", "- a:b", "-  "):
            self.assertRaisesWith(BadText, (0, 1), Misreading.read, text)
        self.assertRaisesWith(BadText, (0, 0), Misreading.read, "--")
        self.assertRaisesWith(BadText, (0, 0), Misreading.read, "-\n")
        self.assertRaisesWith(BadText, (0, 1), Misreading.read, "a:b -")

    def test_values_that_are_no_texts_of_misreadings(self):
        for value in values_but(lambda value: value in ("-", "a:b")):
            self.assertRaisesWith(BadText, (0, 0), Misreading.read, value)
