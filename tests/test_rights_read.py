import itertools
import unittest

from blindrepair.errors import BadText, TooMany
from blindrepair.rights import Right
from tests.helpers import Checks, values_but
from tests.test_rights import chain, loop, some_rights


class ReadTests(Checks, unittest.TestCase):

    def test_what_is_written_is_read(self):
        for right in some_rights(11, 150, most=6):
            self.assertEqual(Right.read(str(right)), right)
            self.assertEqual(str(Right.read(text=str(right))), str(right))
        for text in ("-", "end", "end a>0", "a>1 / end", "a>1 b>2 / b>2 c>2 / end", str(Right(*chain(7))),
                     str(Right(*loop(8))), str(Right.over("abcdefghijklmnopqrstuvwxyz"))):
            self.assertEqual(str(Right.read(text)), text)

    def test_all_short_texts_of_a_few_words(self):
        """A text is read exactly if it is the str of a Right; told by making all Rights with two standings."""
        steps = [{}, {"a": 0}, {"a": 1}, {"b": 0}, {"b": 1}] + [{"a": p, "b": q} for p in (0, 1) for q in (0, 1)]
        pairs = list(itertools.product(steps, (False, True)))
        written = {str(Right(one, other)) for one, other in itertools.product(pairs, repeat=2)}
        words = ["end", "a>0", "a>1", "b>0", "b>1", "/", "-"]
        for size in range(6):
            for row in itertools.product(words, repeat=size):
                text = " ".join(row)
                if text in written:
                    self.assertEqual(str(Right.read(text)), text)
                else:
                    with self.assertRaises(BadText) as caught:
                        Right.read(text)
                    error = caught.exception
                    self.assertEqual((error.line, error.word), self.expected(row))

    def expected(self, row):
        """The line and word of the error, told by looking at ever longer beginnings."""
        if not row:
            return 0, 0
        for size in range(1, len(row) + 1):
            if not self.can_begin(row[:size]):
                return 0, size - 1
        parts = " ".join(row).split("/")
        numbers = [int(word[2]) for word in row if ">" in word]
        if row[-1] == "/" or any(number >= len(parts) for number in numbers):
            return 0, len(row)
        return 0, 0

    def can_begin(self, row):
        """Whether words can stand one behind the other in the text of some machine."""
        parts = " ".join(row).split("/")
        for at, part in enumerate(parts):
            words = part.split()
            if not words:
                if at < len(parts) - 1 or len(parts) == 1:
                    return False
                continue
            if "-" in words and words != ["-"]:
                return False
            letters = [word[0] for word in words if ">" in word]
            if "end" in words[1:] or letters != sorted(set(letters)):
                return False
        return True

    def test_wrong_words_at_each_place(self):
        right = "end a>1 b>0 / b>1 c>2 / end".split(" ")
        self.assertEqual(str(Right.read(" ".join(right))), " ".join(right))
        wrong = ["", "a", ">", "a>", ">1", "a>8", "a>9", "a>10", "a>01", "a>-1", "A>1", "aa>1", "a<1", "a>1\n", "a>b",
                 "END", "ends", "//", "--", "a>1/", "1", "d >1"]
        for at in range(len(right) + 1):
            for word in wrong:
                self.assertRaisesWith(BadText, (0, at), Right.read, " ".join(right[:at] + [word] + right[at:]))
        for at in range(len(right)):
            for word in wrong:
                self.assertRaisesWith(BadText, (0, at), Right.read, " ".join(right[:at] + [word] + right[at + 1:]))

    def test_words_that_cannot_stand_behind_those_ahead(self):
        for text, word in (("/", 0), ("/ end", 0), ("a>0 end", 1), ("end end", 1), ("- end", 1), ("- a>0", 1), ("- -", 1),
                           ("a>0 -", 1), ("end -", 1), ("end / / end", 2), ("b>0 a>0", 1), ("a>0 a>0", 1),
                           ("end b>1 / a>0 c>1 b>0", 5), ("a>1 /  / end", 2), ("- /  end", 2)):
            self.assertRaisesWith(BadText, (0, word), Right.read, text)

    def test_a_word_that_lacks(self):
        for text, words in (("a>1", 1), ("end a>1", 2), ("a>1 /", 2), ("a>1 / end a>2", 4), ("a>7", 1), ("end /", 2),
                            ("- /", 2), ("a>1 / b>2 / end c>3", 6)):
            self.assertRaisesWith(BadText, (0, words), Right.read, text)

    def test_more_than_eight_standings(self):
        eight = str(Right(*chain(7)))
        self.assertEqual(str(Right.read(eight)), eight)
        self.assertRaisesWith(BadText, (0, 15), Right.read, eight + " / end")
        self.assertRaisesWith(BadText, (0, 15), Right.read, " / ".join(["end"] * 20))
        self.assertRaisesWith(BadText, (0, 0), Right.read, " / ".join(["end"] * 8))
        self.assertRaisesWith(BadText, (0, 14), Right.read, eight.replace("end", "a>8 / end"))
        self.assertRaisesWith(BadText, (0, 15), Right.read, eight.replace("end", "a>7 / end"))

    def test_texts_that_are_not_reduced(self):
        for text in ("a>0", "a>1 / a>0", "end / end", "a>1 b>1 / -", "a>1 b>2 / end / end", "a>1 b>2 / a>2 / end b>1 / -",
                     "end a>1 / end a>0", "- / end", "- / -", "a>2 / end / a>1", "a>1 / end / end", "end a>1 / -"):
            self.assertRaisesWith(BadText, (0, 0), Right.read, text)

    def test_values_that_are_no_texts_of_rights(self):
        self.assertRaisesWith(BadText, (0, 0), Right.read, "")
        self.assertRaisesWith(BadText, (0, 0), Right.read, " end")
        self.assertRaisesWith(BadText, (0, 1), Right.read, "end ")
        for value in values_but(lambda value: value in ("-", "end")):
            self.assertRaisesWith(BadText, (0, 0), Right.read, value)

    def test_reading_never_raises_too_many(self):
        for right in some_rights(12, 40, most=6):
            try:
                Right.read(str(right) + " / end")
            except BadText:
                pass
            except TooMany:
                self.fail(str(right))
