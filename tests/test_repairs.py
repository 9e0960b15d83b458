import random
import unittest

from blindrepair.errors import BadRight, BadTable, BadWord, Merging, NoImage, NoOrigin, Ring, TooMany
from blindrepair.merging import merging
from blindrepair.misreadings import Misreading
from blindrepair.origins import repaired
from blindrepair.repairs import Repair, Undoing
from blindrepair.rights import Right
from blindrepair.verdicts import decide
from tests.helpers import Checks, is_text, texts, values_but
from tests.plain_effects import image_along, is_right, some_cases

READ = Misreading.read
WIDE, RING = READ("a:a c:c e:xc f:f x:xf"), READ("a:b b:c c:a")
LONG_RING = READ("a:b b:c c:a d:e e:f f:g g:d h:i i:h")


def cases(seed, many, letters="abcd"):
    """A misreading that is one to one and a right set each, the same ones for each seed."""
    for misreadings, right in some_cases(seed, many, letters, misreadings=1):
        if merging(misreadings[0]):
            yield misreadings[0], right


def plain_undo(misreading, text, letters):
    """The text from which a step leads to a text, by a search over all texts that are not longer; None without one."""
    found = [start for start in texts(letters, len(text))
             if image_along([misreading], (0,), start) == text and start != text]
    return found[0] if len(found) == 1 else None if not found else found


def plain_chain(misreading, text, letters):
    """The chain of a text, by plain searches, and whether it comes back to a text of it."""
    chain = [text]
    while True:
        ahead = plain_undo(misreading, chain[-1], letters)
        if ahead is None or ahead in chain:
            return chain, ahead is not None
        chain.append(ahead)


class UndoTests(Checks, unittest.TestCase):

    def test_against_a_search_over_all_texts(self):
        results = set()
        for misreading, _ in cases(801, 60, "abc"):
            undoing = Undoing(misreading=misreading)
            for text in texts("abc", 4):
                expected = plain_undo(misreading, text, "abc")
                if expected is None:
                    self.assertRaisesWith(NoImage, (), undoing.undo, text)
                else:
                    self.assertEqual(undoing.undo(text=text), expected)
                results.add((len(text), expected and len(expected)))
        self.assertTrue({(0, None), (1, 1), (2, 1), (2, 2), (3, 1), (3, 2), (4, 2), (4, 4), (4, None)} <= results, results)

    def test_texts_that_stay_what_they_are(self):
        undoing = Undoing(WIDE)
        for text in ("", "a", "ca", "f", "aaaa", "cfa"):
            self.assertRaisesWith(NoImage, (), undoing.undo, text)
            self.assertEqual(list(undoing.chain(text)), [text])
            self.assertEqual(undoing(text), text)

    def test_images_of_several_letters_that_overlap(self):
        undoing = Undoing(READ("a:xx c:xy"))
        self.assertEqual([undoing.undo("xxxy"), undoing.undo("xxxx"), undoing.undo("xyxx")], ["ac", "aa", "ca"])
        for text in ("x", "xxx", "xxy", "y", "xxyx"):
            self.assertRaisesWith(NoImage, (), undoing.undo, text)
        # Only the last letters tell what the first ones are.
        undoing = Undoing(READ("a:x b:xy c:yy"))
        self.assertEqual([undoing.undo("x" + "y" * many) for many in (0, 1, 2, 3, 4)], ["a", "b", "ac", "bc", "acc"])

    def test_long_texts(self):
        undoing = Undoing(WIDE)
        self.assertEqual(undoing.undo("xf" * 1000), "x" * 1000)
        self.assertEqual(undoing.undo("x" + "f" * 1999), "x" + "f" * 1998)
        self.assertEqual(undoing("x" + "f" * 300), "x")
        self.assertEqual(undoing("x" + "f" * 300 + "c"), "e")
        self.assertEqual(Undoing(RING).undo("abc" * 666 + "ab"), "cab" * 666 + "ca")

    def test_wrong_misreadings(self):
        for value in values_but(lambda value: isinstance(value, Misreading)):
            self.assertRaisesWith(BadTable, ("misreading",), Undoing, value)

    def test_misreadings_that_are_not_one_to_one(self):
        many = 0
        for misreadings, _ in some_cases(802, 100, "abc", misreadings=1):
            found = merging(misreadings[0])
            if not found:
                many += 1
                error = self.assertRaisesWith(Merging, (found.one, found.other), Undoing, misreadings[0])
                self.assertNotEqual(error.one, error.other)
                self.assertEqual(misreadings[0].image(error.one), misreadings[0].image(error.other))
        self.assertGreater(many, 20)

    def test_long_images(self):
        nine, eight = READ("a:ab b:b") ** 8, READ("a:ab b:b") ** 7
        self.assertRaisesWith(TooMany, ("image", 8), Undoing, nine)
        self.assertRaisesWith(TooMany, ("image", 8), Undoing, nine | READ("c:b"))
        self.assertEqual(Undoing(eight).undo("abbbbbbbb"), "ab")

    def test_the_attribute(self):
        undoing = Undoing(WIDE)
        self.assertIs(undoing.misreading, WIDE)
        self.assertIn("misreading", vars(undoing))
        self.assertTrue(issubclass(Undoing, Repair))
        self.assertIsInstance(undoing, Repair)
        self.assertFalse(undoing == Undoing(WIDE))

    def test_wrong_texts(self):
        undoing = Undoing(WIDE)
        for value in [*values_but(is_text), "a" * 2001]:
            self.assertRaisesWith(BadWord, (value,), undoing.undo, value)
            self.assertRaisesWith(BadWord, (value,), undoing, value)
            self.assertRaisesWith(BadWord, (value,), undoing.until, value, 5)
            chain = undoing.chain(value)
            self.assertRaisesWith(BadWord, (value,), lambda: next(chain))


class ChainTests(Checks, unittest.TestCase):

    def test_against_plain_searches(self):
        results = set()
        for misreading, right in cases(811, 60, "abc"):
            undoing = Undoing(misreading)
            for text in texts("abc", 3):
                chain, ring = plain_chain(misreading, text, "abc")
                self.assertEqual(list(undoing.chain(text=text)), chain)
                if ring:
                    self.assertRaisesWith(Ring, (text,), undoing, text)
                else:
                    self.assertEqual(undoing(text=text), chain[-1])
                rights = [each for each in chain if is_right(right, each)]
                if rights:
                    self.assertEqual(undoing.until(text=text, right=right), rights[0])
                else:
                    self.assertRaisesWith(NoOrigin, (text,), undoing.until, text, right)
                results.add((min(len(chain), 4), ring, bool(rights)))
        self.assertTrue({(1, False, True), (1, False, False), (2, False, True), (2, True, False), (3, True, True),
                         (3, False, False)} <= results, results)

    def test_lines_and_rings(self):
        undoing = Undoing(LONG_RING)
        for text, many in (("a", 3), ("d", 4), ("h", 2), ("ad", 12), ("ah", 6), ("dh", 4), ("adh", 12), ("aa", 3), ("ab", 3)):
            chain = list(undoing.chain(text))
            self.assertEqual((chain[0], len(chain), len(set(chain))), (text, many, many))
            for each in chain:
                self.assertRaisesWith(Ring, (each,), undoing, each)
                self.assertEqual(sorted(undoing.chain(each)), sorted(chain))
        self.assertEqual(list(undoing.chain("z")), ["z"])
        self.assertEqual(list(undoing.chain("az")), ["az"])
        line = Undoing(READ("a:b b:c c:d"))
        self.assertEqual([list(line.chain(text)) for text in ("d", "b", "a", "")], [["d", "c", "b", "a"], ["b", "a"], ["a"], [""]])

    def test_a_chain_that_leads_to_a_text_on_no_ring(self):
        # x is made longer, a and b change places: the chain goes on as long as an f can be taken away.
        undoing = Undoing(READ("a:b b:a f:f x:xf"))
        self.assertEqual(list(undoing.chain("axff")), ["axff", "bxf", "ax"])
        self.assertEqual(undoing("axff"), "ax")
        self.assertRaisesWith(Ring, ("af",), undoing, "af")

    def test_read_step_by_step_while_other_calls_go_on(self):
        undoing = Undoing(LONG_RING)
        first, second = undoing.chain("ad"), undoing.chain("h")
        expected = list(undoing.chain("ad"))
        found = []
        for at in range(12):
            found.append(next(first))
            self.assertEqual(undoing.undo("b"), "a")
            self.assertEqual(list(undoing.chain("h")), ["h", "i"])
            if at < 2:
                self.assertEqual(next(second), "hi"[at])
            self.assertRaisesWith(Ring, ("a",), undoing, "a")
            self.assertEqual(undoing.until("c", Right.words("a")), "a")
        self.assertEqual(found, expected)
        self.assertEqual(list(first), [])
        self.assertEqual(list(second), [])

    def test_until(self):
        undoing = Undoing(WIDE)
        self.assertEqual(undoing.until("axfc", Right.words("axc")), "axc")
        self.assertEqual(undoing.until("axfc", Right.words("axfc", "axc")), "axfc")
        self.assertEqual(undoing.until("axfc", Right.words("ae")), "ae")
        self.assertEqual(undoing.until("a", Right.over("a")), "a")
        for right in (Right.words(), Right.words("e"), Right.words("axffc")):
            self.assertRaisesWith(NoOrigin, ("axfc",), undoing.until, "axfc", right)
        self.assertEqual(Undoing(RING).until("b", Right.words("c")), "c")
        self.assertRaisesWith(NoOrigin, ("b",), Undoing(RING).until, "b", Right.words("d"))

    def test_wrong_right_sets(self):
        undoing = Undoing(WIDE)
        for value in values_but(lambda value: isinstance(value, Right)):
            self.assertRaisesWith(BadRight, ("right",), undoing.until, "a", value)
            self.assertRaisesWith(BadRight, ("right",), undoing.spoiled, value)


class SpoiledTests(Checks, unittest.TestCase):

    def test_against_a_search_over_short_texts(self):
        sizes = set()
        for misreading, right in cases(821, 200, "abc"):
            found = Undoing(misreading).spoiled(right=right)
            expected = [text for text in texts("abc", 5) if is_right(right, text)
                        and plain_undo(misreading, text, "abc") is not None] if found is None or len(found) < 5 else []
            if expected:
                self.assertEqual(found, expected[0])
                sizes.add(len(found))
            else:
                self.assertTrue(found is None or len(found) > 5)
                sizes.add(None)
        self.assertTrue({None, 1, 2, 3} <= sizes, sizes)

    def test_rings(self):
        self.assertIsNone(Undoing(RING).spoiled(Right.over("de")))
        self.assertEqual(Undoing(RING).spoiled(Right.over("abc")), "a")
        self.assertEqual(Undoing(RING).spoiled(Right.words("dd", "c", "ab")), "c")
        self.assertEqual(Undoing(RING | READ("d:d")).spoiled(Right.words("dd", "db")), "db")

    def test_told_by_hand(self):
        undoing = Undoing(WIDE)
        self.assertEqual([undoing.spoiled(Right.over(letters)) for letters in ("acex", "ae", "acfx", "fx", "ca", "")],
                         ["xc", None, "xc", "xf", None, None])
        self.assertEqual(undoing.spoiled(Right.words("aaxc", "ccxf")), "aaxc")
        self.assertIsNone(undoing.spoiled(Right.words()))
        # A letter without an image never stands in an image.
        self.assertIsNone(undoing.spoiled(Right.words("zxc", "xcz")))
        self.assertEqual(Undoing(Misreading({})).spoiled(Right.over("ab")), None)

    def test_the_first_one_by_length_and_letters(self):
        undoing = Undoing(READ("a:zz b:yx c:xy m:m"))
        self.assertEqual(undoing.spoiled(Right.over("mxyz")), "xy")
        self.assertEqual(undoing.spoiled(Right.avoiding("mxyz", "xy")), "yx")
        self.assertEqual(undoing.spoiled(Right.avoiding("mxyz", "xy", "yx")), "zz")
        self.assertEqual(undoing.spoiled(Right.words("zzm", "mzz", "xyx", "mmyx")), "mzz")


class FactTests(Checks, unittest.TestCase):

    def some_texts(self, misreading, right):
        """Triples of a right text, a number and what so many misreadings make of it."""
        for text in texts(right.letters, 3):
            for number in range(4):
                image = image_along([misreading], (0,) * number, text)
                if is_right(right, text) and image is not None and len(image) < 40:
                    yield text, number, image

    def test_if_none_is_spoiled_calling_tells_the_right_text(self):
        many = 0
        for misreading, right in cases(831, 1500, "abcd"):
            undoing = Undoing(misreading)
            if undoing.spoiled(right) is None:
                for text, number, image in self.some_texts(misreading, right):
                    self.assertEqual(undoing(image), text)
                    many += number > 0 and image != text
        self.assertGreater(many, 100)

    def test_until_tells_it_exactly_if_there_is_no_clash(self):
        results = set()
        for misreading, right in cases(832, 300, "abc"):
            verdict = decide([misreading], right)
            undoing = Undoing(misreading)
            told = [undoing.until(image, right) == text for text, number, image in self.some_texts(misreading, right)]
            if verdict:
                self.assertTrue(all(told))
                for text, number, image in self.some_texts(misreading, right):
                    self.assertEqual(repaired([misreading], right, image), text)
            else:
                image = image_along([misreading], verdict.row, verdict.text)
                if len(image) <= 2000:
                    self.assertNotEqual(undoing.until(image, right), verdict.text)
            results.add((bool(verdict), all(told)))
        self.assertTrue({(True, True), (False, False)} <= results)


class RepairTests(Checks, unittest.TestCase):

    def test_each_method_stands_in_the_class_itself(self):
        for name in ("__call__", "spoiled"):
            self.assertIn(name, vars(Repair))
        for name in ("__init__", "undo", "chain", "__call__", "until", "spoiled"):
            self.assertIn(name, vars(Undoing))

    def test_the_base_repairs_nothing_itself(self):
        with self.assertRaises(NotImplementedError):
            Repair()("a")
        with self.assertRaises(NotImplementedError):
            Repair().spoiled(Right.over("a"))

    def test_drawn_long_texts(self):
        chance = random.Random(841)
        undoing = Undoing(WIDE)
        for _ in range(50):
            text = "".join(chance.choice("acefx") for _ in range(chance.randint(1, 300)))
            number = chance.randint(1, 3)
            image = image_along([WIDE], (0,) * number, text)
            reached = image
            for _ in range(number):
                reached = undoing.undo(reached) if image != text else reached
            self.assertEqual(reached, text)


if __name__ == "__main__":
    unittest.main()
