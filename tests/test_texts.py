import random
import unittest

from blindrepair.codes import ReadTable, WriteTable
from blindrepair.errors import BadList, BadRight, BadText
from blindrepair.fixers import Fixer
from blindrepair.misreadings import Misreading
from blindrepair.reader import read, read_fixer, read_misreadings, read_right, read_table
from blindrepair.rights import Right
from blindrepair.texts import write_fixer, write_misreadings, write_right, write_table
from tests.helpers import Checks, any_values, values_but, wrong_lists
from tests.plain_effects import some_cases
from tests.plain_texts import plain_fault, spoilt

READ = Misreading.read
HEADS = {read_misreadings: ["misreadings"], read_right: ["right"], read_fixer: ["fixer"], read_table: ["write", "read"],
         read: ["misreadings", "right", "fixer", "write", "read"]}
TEXTS = ["misreadings\na:a c:c e:xc f:f x:xf\n-\na:b b:c c:a", "misreadings\na:abcd\nb:b\nz:zz\nm:n n:m", "misreadings\n-",
         "right\na>1 b>2 / b>2 c>2 / end", "right\nend a>1 b>0 / end b>0", "right\n-", "right\nend",
         "right\na>1 / a>2 / a>3 / a>4 / a>5 / a>6 / a>7 / end", "fixer\nxc e\nxf x", "fixer\na b", "fixer\nab ba\nabc abd\nb a",
         "fixer\nabcdefgh hgfedcba\nb c\nc b", "write\na 97\ne 195 169\nx 1 2 3 4", "write", "write\nz 0", "read", "read\n97 a",
         "read\n0 z\n9 a\n10 b\n195 x\n255 a"]


class WriteTests(Checks, unittest.TestCase):

    def test_told_by_hand(self):
        self.assertLike(write_misreadings([READ("a:b"), Misreading({})]), "misreadings\na:b\n-")
        self.assertLike(write_misreadings(misreadings=(READ("a:b b:c c:a"),)), "misreadings\na:b b:c c:a")
        self.assertLike(write_right(right=Right.words("e", "xc")), "right\ne>1 x>2 / end / c>1")
        self.assertLike(write_right(Right.words()), "right\n-")
        self.assertLike(write_fixer(fixer=Fixer(("xf", "x"), ("xc", "e"))), "fixer\nxc e\nxf x")
        self.assertLike(write_table(WriteTable({"e": (195, 169), "a": (0,)})), "write\na 0\ne 195 169")
        self.assertLike(write_table(table=ReadTable({195: "x", 9: "a", 10: "a"})), "read\n9 a\n10 a\n195 x")
        self.assertLike([write_table(WriteTable({})), write_table(ReadTable({}))], ["write", "read"])

    def test_wrong_arguments(self):
        for value, at in wrong_lists():
            self.assertRaisesWith(BadList, (at,), write_misreadings, value)
        for value in values_but(lambda value: isinstance(value, Right)):
            self.assertRaisesWith(BadRight, ("right",), write_right, value)

    def test_images_of_more_than_4_letters_are_written(self):
        self.assertEqual(write_misreadings([READ("a:ab b:b") ** 5]), "misreadings\na:abbbbb b:b")
        self.assertRaisesWith(BadText, (1, 0), read_misreadings, "misreadings\na:abbbbb b:b")


class RoundTests(Checks, unittest.TestCase):

    def again(self, write, own, thing):
        """Writes a thing, reads it, and writes what is read."""
        text = write(thing)
        for reading in (own, read):
            made = reading(text)
            self.assertIs(type(made), type(thing))
            self.assertTrue(made == thing)
            self.assertEqual(write(made), text)
        for other in HEADS:
            if text.split("\n")[0] not in HEADS[other]:
                self.assertRaisesWith(BadText, (0, 0), other, text)

    def test_misreadings_and_rights(self):
        for misreadings, right in some_cases(1201, 200, "abcdefg", longest=4, standings=8):
            self.again(write_misreadings, read_misreadings, misreadings)
            self.again(write_right, read_right, right)
        self.again(write_misreadings, read_misreadings, [Misreading.same("abcdefghijkl")] * 4)
        for right in (Right.words(), Right.words(""), Right.over("abcdefghijklmnopqrstuvwxyz"), Right.avoiding("xyz", "xyx", "zz")):
            self.again(write_right, read_right, right)

    def test_fixers(self):
        chance = random.Random(1202)
        many = set()
        for _ in range(200):
            pairs = {}
            for _ in range(chance.randint(1, 12)):
                row = "".join(chance.choice("abcz") for _ in range(chance.randint(1, 8)))
                pairs[row] = "".join(chance.choice("wxy") for _ in range(chance.randint(1, len(row))))
            self.again(write_fixer, read_fixer, Fixer(*pairs.items()))
            many.add(len(pairs))
        self.assertTrue({1, 12} <= many)

    def test_tables(self):
        chance = random.Random(1203)
        letters = "abcdefghijklmnopqrstuvwxyz"
        for _ in range(100):
            size = chance.choice([0, 1, 5, 26])
            codes = {letter: tuple(chance.randrange(256) for _ in range(chance.randint(1, 4)))
                     for letter in chance.sample(letters, size)}
            self.again(write_table, read_table, WriteTable(codes))
            size = chance.choice([0, 1, 20, 256])
            self.again(write_table, read_table, ReadTable({number: chance.choice(letters)
                                                           for number in chance.sample(range(256), size)}))

    def test_a_new_list_each_time(self):
        text = "misreadings\na:b"
        found = read_misreadings(text)
        found.append(1)
        self.assertEqual(len(read_misreadings(text)), 1)
        self.assertIs(type(read(text)), list)


class SpoiltTests(Checks, unittest.TestCase):

    def test_each_text_spoilt_at_each_word_and_line(self):
        places, many = set(), 0
        for text in TEXTS:
            self.assertIsNone(plain_fault(text))
            for wrong in [wrong + more for wrong in spoilt(text) for more in ("", "\nend")]:
                for reading, heads in HEADS.items():
                    if reading is read or wrong.split("\n")[0].split(" ")[0] in heads:
                        self.compare(reading, wrong, plain_fault(wrong, heads))
                places.add(plain_fault(wrong))
                many += 1
        self.assertGreater(many, 5000)
        self.assertTrue({(0, 0), (0, 1), (1, 0), (1, 1), (1, 2), (2, 0), (2, 1), (2, 2), (3, 4), (3, 5), (5, 0)} <= places, places)

    def compare(self, reading, text, fault):
        if fault is not None:
            self.assertRaisesWith(BadText, fault, reading, text)
            return
        made = reading(text)
        write = {list: write_misreadings, Right: write_right, Fixer: write_fixer, WriteTable: write_table,
                 ReadTable: write_table}[type(made)]
        self.assertEqual(write(made), text)

    def test_what_is_no_string(self):
        for reading in HEADS:
            for value in [value for value in any_values() if type(value) is not str] + [b"right"]:
                self.assertRaisesWith(BadText, (0, 0), reading, value)

    def test_the_first_line(self):
        for reading, heads in HEADS.items():
            for text in ("", " ", "\n", "x", "misreading\n-", "Right\nend", " right\nend", "write:", "reads", "-", "0", "\nread", "right\tend"):
                self.assertRaisesWith(BadText, (0, 0), reading, text)
            for head in heads:
                for more in (" ", " x", " x y", " right", " \n"):
                    self.assertRaisesWith(BadText, (0, 1), reading, head + more)

    def test_lines_that_lack(self):
        for reading, head in ((read_misreadings, "misreadings"), (read_right, "right"), (read_fixer, "fixer")):
            self.assertRaisesWith(BadText, (1, 0), reading, head)
            self.assertRaisesWith(BadText, (1, 0), read, head)
            self.assertRaisesWith(BadText, (1, 0), reading, head + "\n")
        self.assertEqual([len(read("write")), len(read("read"))], [0, 0])
        for text in ("write\n", "read\n"):
            self.assertRaisesWith(BadText, (1, 0), read_table, text)

    def test_lines_too_many(self):
        four = "misreadings" + "\na:b" * 4
        self.assertEqual(len(read_misreadings(four)), 4)
        for more in ("\na:b", "\n", "\n-", "\nx", "\na:b\na:b"):
            self.assertRaisesWith(BadText, (5, 0), read_misreadings, four + more)
        twelve = "fixer" + "".join(f"\n{letter} z" for letter in "abcdefghijkl")
        self.assertEqual(len(read_fixer(twelve)), 12)
        for more in ("\nm z", "\n", "\na z", "\nm"):
            self.assertRaisesWith(BadText, (13, 0), read_fixer, twelve + more)
        for more in ("\nend", "\n", "\n-", "\nx\ny"):
            self.assertRaisesWith(BadText, (2, 0), read_right, "right\nend" + more)
        all_letters = "write" + "".join(f"\n{letter} 1" for letter in "abcdefghijklmnopqrstuvwxyz")
        self.assertEqual(len(read_table(all_letters)), 26)
        self.assertRaisesWith(BadText, (27, 0), read_table, all_letters + "\na 1")
        all_numbers = "read" + "".join(f"\n{number} a" for number in range(256))
        self.assertEqual(len(read_table(all_numbers)), 256)
        self.assertRaisesWith(BadText, (257, 0), read_table, all_numbers + "\n256 a")

    def test_words_that_lack(self):
        for text, fault in (("write\na", (1, 1)), ("write\na 1\nb", (2, 1)), ("read\n1", (1, 1)), ("fixer\nab", (1, 1)),
                            ("fixer\na b\nab", (2, 1)), ("right\na>1", (1, 1)), ("right\na>1 /", (1, 2)), ("right\nend a>2 / a>0", (1, 4)),
                            ("write\na 1\nb\nc", (2, 1)), ("read\n1\n2 ab", (1, 1))):
            self.assertRaisesWith(BadText, fault, read, text)

    def test_numbers_as_str_writes_them(self):
        for word in ("007", "+1", "-0", "00", "01", "1.0", "1_0", "0x1", "-1", "256", "1000", "", "a", "9" * 2999, "\u00b2", "\u0661"):
            for text, fault in ((f"write\na {word}", (1, 1)), (f"write\na 1 2 3 {word}", (1, 4)), (f"write\na 1\nb 1 {word}", (2, 2)),
                                (f"read\n{word} a", (1, 0)), (f"read\n0 a\n{word} a", (2, 0))):
                self.assertRaisesWith(BadText, fault, read_table, text)
        self.assertEqual(read_table("write\na 0 255 10 1")["a"], (0, 255, 10, 1))
        self.assertRaisesWith(BadText, (1, 5), read_table, "write\na 0 255 10 1 1")
        self.assertEqual(list(read_table("read\n0 a\n255 a")), [0, 255])

    def test_what_is_not_greater_than_the_line_ahead(self):
        for text, fault in (("write\nb 1\na 1", (2, 0)), ("write\na 1\na 1", (2, 0)), ("read\n10 a\n9 a", (2, 0)), ("read\n9 a\n9 b", (2, 0)),
                            ("fixer\nb a\nab a", (2, 0)), ("fixer\nab a\nab a", (2, 0)), ("fixer\nab a\na b", (2, 0))):
            self.assertRaisesWith(BadText, fault, read, text)
        self.assertEqual(list(read_table("read\n9 a\n10 a\n100 b")), [9, 10, 100])
        self.assertEqual([row for row, result in read_fixer("fixer\na b\nab a\nb a")], ["a", "ab", "b"])

    def test_rights_that_are_not_reduced(self):
        for line in ("end a>1 b>1 / end a>1 b>1", "a>0", "- / end", "a>2 b>1 / end / -", "a>1 / a>1", "end / end", "end a>1 / end a>1",
                     "b>2 / b>2 c>2 / end", "a>2 b>1 / end / end a>2", "end a>1 / a>1"):
            self.assertRaisesWith(BadText, (0, 0), Right.read, line)
            # What is behind the first line that cannot stand is not told.
            for behind in ("", "\nend", "\n", "\nx\ny", "\n" + line, "\nabcdefghi", "\n-\n"):
                for reading in (read, read_right):
                    self.assertRaisesWith(BadText, (1, 0), reading, "right\n" + line + behind)

    def test_a_second_line_of_a_right_behind_a_line_that_can_stand(self):
        for line in ("-", "end", "end a>0", "end a>1 / end", "a>1 b>2 / b>2 c>2 / end"):
            for behind in ("\nend", "\n", "\nx\ny", "\n" + line, "\na>0", "\n-\n"):
                for reading in (read, read_right):
                    self.assertRaisesWith(BadText, (2, 0), reading, "right\n" + line + behind)

    def test_a_word_of_a_right_that_cannot_stand_ahead_of_a_line_too_many(self):
        for line, word in (("a>0 / x", 2), ("a>1 /", 2), ("a>1", 1), ("a>1 / end a>2", 4), ("A", 0), ("", 0), ("end end", 1), ("- / a>2 /", 4)):
            for behind in ("", "\nend", "\n", "\nx"):
                for reading in (read, read_right):
                    self.assertRaisesWith(BadText, (1, word), reading, "right\n" + line + behind)

    def test_the_word_of_a_line_is_that_of_its_own_read(self):
        for line in ("a:b a:c", "b:b a:b", "a:bcdef", "-  ", "- a:b", "a:b  b:c", "", " ", "a:b c"):
            with self.assertRaises(BadText) as caught:
                Misreading.read(line)
            self.assertRaisesWith(BadText, (3, caught.exception.word), read_misreadings, f"misreadings\na:b\n-\n{line}\n-")
        for line in ("a>1 / x", "a>8", "end end", "a>1 /  end", "b>0 a>0", "/", "end /", "- a>0"):
            with self.assertRaises(BadText) as caught:
                Right.read(line)
            self.assertRaisesWith(BadText, (1, caught.exception.word), read_right, f"right\n{line}")


if __name__ == "__main__":
    unittest.main()
