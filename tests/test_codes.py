import random
import unittest

from blindrepair.codes import ReadTable, WriteTable, misread_by, reread, written
from blindrepair.errors import (BadCode, BadImage, BadLetter, BadTable, BadWord, Barred, NoSign, TooMany, Unlike, Unread)
from blindrepair.misreadings import Misreading
from tests.helpers import Checks, any_values, is_integer, is_letter, is_text, texts, values_but

LETTERS = "abcdefghijklmnopqrstuvwxyz"


def is_number(value):
    return type(value) is int and 0 <= value <= 255


def is_code(value):
    return type(value) is tuple and 1 <= len(value) <= 4 and all(is_number(number) for number in value)


def write():
    return WriteTable({"x": (195, 131), "e": (195, 169), "a": (97,), "c": (194, 169)})


def read():
    return ReadTable({195: "x", 97: "a", 169: "c", 131: "f"})


def some_tables(seed, many):
    """Tables of both kinds over few letters and integers, the same ones for each seed."""
    chance = random.Random(seed)
    for _ in range(many):
        codes = {letter: tuple(chance.randrange(4) for _ in range(chance.randint(1, 4)))
                 for letter in "abc" if chance.random() < 0.8}
        signs = {number: chance.choice("abc") for number in range(4) if chance.random() < 0.8}
        yield WriteTable(codes), ReadTable(signs)


class WriteTableTests(Checks, unittest.TestCase):

    def test_none_to_26_letters(self):
        for size in range(27):
            table = WriteTable({letter: (at,) for at, letter in enumerate(LETTERS[:size])})
            self.assertEqual(len(table), size)
            self.assertEqual("".join(table), LETTERS[:size])

    def test_what_is_no_dict(self):
        for value in values_but(lambda value: type(value) is dict):
            self.assertRaisesWith(BadTable, ("codes",), WriteTable, value)

    def test_codes(self):
        for code in ((0,), (255,), (0, 255), (1, 2, 3), (1, 1, 1, 1)):
            self.assertLike(WriteTable({"a": code})["a"], code)
        wrong = values_but(is_code)
        wrong += [(), (1, 2, 3, 4, 5), (-1,), (256,), (True,), (0, False), [97], 97, ("a",), (97, None), (10 ** 69,)]
        for value in wrong:
            self.assertRaisesWith(BadCode, (value,), WriteTable, {"c": 7, "b": value, "a": (1,)})

    def test_keys_and_values_that_are_wrong_at_once(self):
        for key in (None, True, 1, "", "ab", "A", (), ("a",), " "):
            self.assertRaisesWith(BadLetter, (key,), WriteTable, {key: (1,)})
            self.assertRaisesWith(BadLetter, (key,), WriteTable, {"a": 5, key: 5, "B": (1,)})
            self.assertRaisesWith(BadLetter, ("B",), WriteTable, {"B": 5, "a": 5, key: (1,)})
        self.assertRaisesWith(BadCode, ((),), WriteTable, {"z": 1, "b": (), "c": 2})
        self.assertRaisesWith(BadCode, (1,), WriteTable, {"c": 2, "z": (), "b": 1})

    def test_looking(self):
        table = write()
        self.assertEqual(list(table), ["a", "c", "e", "x"])
        self.assertLike(table["e"], (195, 169))
        for value in any_values():
            self.assertIs(value in table, value == "a" if isinstance(value, str) else False)
        for value in values_but(is_letter):
            self.assertRaisesWith(BadLetter, (value,), table.__getitem__, value)
        self.assertRaisesWith(NoSign, ("b",), table.__getitem__, "b")

    def test_writing(self):
        table = write()
        self.assertLike(table("ae"), (97, 195, 169))
        self.assertLike(table(text=""), ())
        self.assertEqual(len(table("e" * 2000)), 4000)
        for value in [*values_but(is_text), "a" * 2001]:
            self.assertRaisesWith(BadWord, (value,), table, value)
        self.assertRaisesWith(NoSign, ("f",), table, "aefb")

    def test_both(self):
        one, other = WriteTable({"a": (1,), "b": (2,)}), WriteTable({"b": (2,), "c": (3,)})
        self.assertEqual(one | other, WriteTable({"a": (1,), "b": (2,), "c": (3,)}))
        self.assertEqual(list(other | one), ["a", "b", "c"])
        self.assertRaisesWith(Unlike, ("b",), lambda: WriteTable({"a": (1,), "b": (2,), "c": (3,)})
                              | WriteTable({"c": (4,), "b": (2, 2), "a": (1,)}))
        for value in values_but(lambda value: isinstance(value, WriteTable)):
            self.assertRaisesWith(BadTable, ("other",), lambda: one | value)
        made = one
        made |= other
        self.assertEqual(len(made), 3)
        self.assertEqual(len(one), 2)

    def test_equal(self):
        self.assertTrue(WriteTable({"a": (1,), "b": (2,)}) == WriteTable({"b": (2,), "a": (1,)}))
        self.assertFalse(WriteTable({"a": (1,)}) == WriteTable({"a": (1, 1)}))
        self.assertTrue(WriteTable({"a": (1,)}) != WriteTable({"b": (1,)}))
        for value in any_values():
            self.assertFalse(WriteTable({}) == value)
        self.assertFalse(WriteTable({}) == ReadTable({}))

    def test_later_changes(self):
        codes = {"a": (1,)}
        table = WriteTable(codes)
        codes["b"] = (2,)
        self.assertEqual(list(table), ["a"])


class ReadTableTests(Checks, unittest.TestCase):

    def test_all_integers(self):
        table = ReadTable({number: "a" for number in reversed(range(256))})
        self.assertEqual(list(table), list(range(256)))
        self.assertEqual(len(table), 256)
        self.assertEqual(len(ReadTable({})), 0)

    def test_what_is_no_dict(self):
        for value in values_but(lambda value: type(value) is dict):
            self.assertRaisesWith(BadTable, ("signs",), ReadTable, value)

    def test_keys_and_values_that_are_wrong_at_once(self):
        for key in (None, True, False, -1, 256, 10 ** 69, "", "a", "97", (97,), ()):
            self.assertRaisesWith(BadCode, (key,), ReadTable, {key: "a"})
            self.assertRaisesWith(BadCode, (key,), ReadTable, {97: "A", key: 5, 999: "a"})
            self.assertRaisesWith(BadCode, (999,), ReadTable, {97: "A", 999: "a", key: 5})
        for value in values_but(is_letter):
            self.assertRaisesWith(BadLetter, (value,), ReadTable, {200: 5, 7: value, 255: "A", 0: "a"})
        self.assertRaisesWith(BadLetter, ("aa",), ReadTable, {9: "AA", 8: "aa"})

    def test_looking(self):
        table = ReadTable({1: "a", 0: "b", 255: "c"})
        for value in any_values():
            self.assertIs(value in table, is_integer(value) and value in (0, 1, 255))
        self.assertEqual([table[0], table[1], table[255]], ["b", "a", "c"])
        for value in values_but(lambda value: is_integer(value) and value in (0, 1, 255)):
            self.assertRaisesWith(BadCode, (value,), table.__getitem__, value)

    def test_reading(self):
        table = read()
        self.assertEqual(table((195, 169)), "xc")
        self.assertEqual(table([195, 97]), "xa")
        self.assertEqual(table(numbers=()), "")
        self.assertEqual(table([]), "")
        for value in values_but(lambda value: type(value) in (list, tuple)):
            self.assertRaisesWith(BadTable, ("numbers",), table, value)
        for value in values_but(is_number):
            self.assertRaisesWith(BadCode, (value,), table, (97, 0, value, "x"))
            self.assertRaisesWith(BadCode, (value,), table, [value])
        self.assertRaisesWith(Unread, (1,), table, (97, 0, 1))

    def test_reading_2000_and_2001_integers(self):
        table = read()
        self.assertEqual(table((97,) * 2000), "a" * 2000)
        self.assertRaisesWith(TooMany, ("signs", 2000), table, [97] * 2001)
        self.assertRaisesWith(Unread, (2000,), table, [97] * 2000 + [0])
        self.assertRaisesWith(BadCode, (True,), table, [0] * 2001 + [True])

    def test_the_table_the_other_way_about(self):
        table = ReadTable({9: "b", 7: "a", 8: "a", 200: "b", 3: "c"})
        self.assertEqual(~table, WriteTable({"a": (7,), "b": (9,), "c": (3,)}))
        self.assertEqual(~ReadTable({}), WriteTable({}))

    def test_equal(self):
        self.assertTrue(ReadTable({1: "a", 2: "b"}) == ReadTable({2: "b", 1: "a"}))
        self.assertTrue(ReadTable({1: "a"}) != ReadTable({1: "b"}))
        self.assertFalse(ReadTable({1: "a"}) == ReadTable({1: "a", 2: "a"}))
        for value in any_values():
            self.assertFalse(ReadTable({}) == value)

    def test_later_changes(self):
        signs = {1: "a"}
        table = ReadTable(signs)
        signs[2] = "b"
        self.assertEqual(list(table), [1])


class MisreadTests(Checks, unittest.TestCase):

    def test_by_a_second_way(self):
        for writer, reader in some_tables(1, 150):
            misreading = misread_by(writer, reader)
            for letter in "abcd":
                can = letter in writer and all(number in reader for number in writer[letter])
                self.assertIs(letter in misreading, can)
                if can:
                    self.assertEqual(misreading[letter], "".join(reader[number] for number in writer[letter]))

    def test_twelve_and_thirteen_letters_that_can_be_read(self):
        codes = {letter: (1,) for letter in LETTERS[:12]}
        reader = ReadTable({1: "z"})
        self.assertEqual(len(misread_by(WriteTable({**codes, "z": (2,)}), reader)), 12)
        self.assertRaisesWith(TooMany, ("letters", 12), misread_by, WriteTable({**codes, "z": (1,)}), reader)

    def test_wrong_tables(self):
        for value in values_but(lambda value: isinstance(value, WriteTable)):
            self.assertRaisesWith(BadTable, ("write",), misread_by, value, value)
            self.assertRaisesWith(BadTable, ("write",), reread, "a", value, 5)
        for value in values_but(lambda value: isinstance(value, ReadTable)):
            self.assertRaisesWith(BadTable, ("read",), misread_by, write(), value)
            self.assertRaisesWith(BadTable, ("read",), reread, "q", write(), value)
            self.assertRaisesWith(BadTable, ("read",), written, Misreading({"a": "z"}) ** 1, value)
        for value in values_but(is_text):
            self.assertRaisesWith(BadWord, (value,), reread, value, 5, 5)
        self.assertRaisesWith(BadWord, ("a" * 2001,), reread, "a" * 2001, write(), read())
        for value in values_but(lambda value: isinstance(value, Misreading)):
            self.assertRaisesWith(BadTable, ("misreading",), written, value, 5)

    def test_reread_is_the_misreading(self):
        for writer, reader in some_tables(2, 60):
            misreading = misread_by(write=writer, read=reader)
            for text in texts("abcd", 3):
                try:
                    expected = misreading(text)
                except Barred as error:
                    found = self.assertRaisesWith(Barred, (error.at,), reread, text, writer, reader)
                    self.check_cause(found, text[error.at], writer, reader)
                else:
                    self.assertEqual(reread(text=text, write=writer, read=reader), expected)

    def check_cause(self, error, letter, writer, reader):
        cause = error.__cause__
        if letter not in writer:
            self.assertIs(type(cause), NoSign)
            self.assertEqual(cause.letter, letter)
        else:
            self.assertIs(type(cause), Unread)
            self.assertEqual([number in reader for number in writer[letter]].index(False), cause.at)

    def test_the_cause(self):
        error = self.assertRaisesWith(Barred, (1,), reread, "aca", write(), read())
        self.assertEqual((type(error.__cause__), error.__cause__.at), (Unread, 0))
        error = self.assertRaisesWith(Barred, (2,), reread, "aebc", write(), read())
        self.assertEqual((type(error.__cause__), error.__cause__.letter), (NoSign, "b"))

    def test_reread_of_long_texts(self):
        self.assertEqual(reread("e" * 1000, write(), read()), "xc" * 1000)
        self.assertRaisesWith(TooMany, ("signs", 2000), reread, "e" * 1001, write(), read())
        self.assertRaisesWith(Barred, (1999,), reread, "e" * 1999 + "b", write(), read())

    def test_written(self):
        self.assertEqual(written(Misreading.read("e:xc x:xf"), read()), WriteTable({"e": (195, 169), "x": (195, 131)}))
        self.assertEqual(written(misreading=Misreading({}), read=ReadTable({})), WriteTable({}))
        self.assertEqual(written(Misreading({"a": "xxxx"}), read())["a"], (195,) * 4)
        long = Misreading({"e": "eb", "b": "bb"}) >> Misreading.read("b:ccc e:cc")
        self.assertEqual((long["b"], long["e"]), ("c" * 6, "c" * 5))
        self.assertRaisesWith(BadImage, ("e",), written, long.only("e") | Misreading({"f": "z"}), read())
        self.assertRaisesWith(BadImage, ("b",), written, long, ReadTable({}))
        self.assertRaisesWith(NoSign, ("z",), written, long | Misreading({"a": "azyx"}), read())
        self.assertRaisesWith(NoSign, ("b",), written, Misreading({"a": "cb", "b": "z"}), read())

    def test_facts(self):
        for writer, reader in some_tables(3, 100):
            self.assertEqual(misread_by(~reader, reader), Misreading.same("".join(~reader)))
            misreading = misread_by(writer, reader)
            self.assertEqual(misread_by(written(misreading, reader), reader), misreading)
