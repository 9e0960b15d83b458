import itertools
import unittest

from blindrepair.errors import BadList, BadRow, BadWord, Barred, TooMany
from blindrepair.misreadings import Misreading
from blindrepair.rows import along
from tests.helpers import Checks, is_text, texts, values_but
from tests.test_misreadings import some_misreadings


class RowTests(Checks, unittest.TestCase):

    def test_rows_one_misreading_behind_the_other(self):
        made = list(some_misreadings(21, 12))
        for size in range(4):
            for row in itertools.product(range(3), repeat=size):
                for at in range(0, 12, 3):
                    misreadings = made[at:at + 3]
                    for text in texts("abc", 2):
                        self.check(misreadings, text, row)

    def check(self, misreadings, text, row):
        reached = text
        for at, index in enumerate(row):
            try:
                reached = misreadings[index](reached)
            except Barred:
                self.assertRaisesWith(Barred, (at,), along, misreadings, text, row)
                return
        self.assertEqual(along(misreadings, text, row), reached)
        self.assertEqual(along(misreadings=tuple(misreadings), text=text, row=row), reached)

    def test_the_empty_row(self):
        self.assertEqual(along([Misreading({})], "abc", ()), "abc")
        self.assertEqual(along([Misreading({})], "z" * 2000, ()), "z" * 2000)
        self.assertRaisesWith(Barred, (0,), along, [Misreading({})], "abc", (0,))

    def test_growing_to_2000_letters_and_beyond(self):
        double, five = Misreading({"a": "aa"}), Misreading({"a": "aaaa"})
        self.assertEqual(along([double, five], "a" * 125, (0, 1, 0)), "a" * 2000)
        self.assertRaisesWith(TooMany, ("signs", 2000), along, [double], "a" * 126, (0,) * 4)
        once = Misreading({"e": "xc", "x": "xf"}, "cf")
        self.assertEqual(along([once], "e", (0,) * 1999), "x" + "f" * 1998 + "c")
        self.assertRaisesWith(TooMany, ("signs", 2000), along, [once], "e", (0,) * 2000)

    def test_item_by_item(self):
        double, other = Misreading({"a": "aa"}), Misreading({"b": "b"})
        self.assertRaisesWith(Barred, (1,), along, [double, other], "a" * 1000, (0, 1, 0))
        self.assertRaisesWith(TooMany, ("signs", 2000), along, [double, other], "a" * 1000, (0, 0, 1))

    def test_wrong_rows(self):
        made = [Misreading.same("a"), Misreading.same("b")]
        for value in values_but(lambda value: type(value) is tuple):
            self.assertRaisesWith(BadRow, (None,), along, made, "a", value)
        for value in [*values_but(lambda value: type(value) is int and value in (0, 1)), 2, -1, True]:
            self.assertRaisesWith(BadRow, (2,), along, made, "a", (0, 1, value, "x"))
            self.assertRaisesWith(BadRow, (0,), along, made, "z", (value,))

    def test_wrong_lists_and_texts_in_their_order(self):
        for value in values_but(lambda value: type(value) in (list, tuple) and 1 <= len(value) <= 4):
            self.assertRaisesWith(BadList, (None,), along, value, 5, 5)
        same = Misreading.same("a")
        self.assertEqual(along([same] * 4, "a", (3,)), "a")
        for wrong in ([], (), [same] * 5, (same,) * 5, [5] * 5):
            self.assertRaisesWith(BadList, (None,), along, wrong, 5, 5)
        for value in values_but(lambda value: isinstance(value, Misreading)):
            for at in range(4):
                made = [same] * at + [value] + [5] * (3 - at)
                self.assertRaisesWith(BadList, (at,), along, made, 5, 5)
                self.assertRaisesWith(BadList, (at,), along, tuple(made), 5, 5)
        for value in [*values_but(is_text), "a" * 2001]:
            self.assertRaisesWith(BadWord, (value,), along, [same], value, 5)
