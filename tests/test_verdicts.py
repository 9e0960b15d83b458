import unittest

from blindrepair.effects import effect_of, effects
from blindrepair.errors import BadList, BadRight, BadWord, TooMany
from blindrepair.look_verdicts import shows_verdict
from blindrepair.misreadings import Misreading
from blindrepair.rights import Right
from blindrepair.verdicts import Calm, Clash, Entry, decide, risk_of
from tests.helpers import Checks, is_text, texts, values_but, wrong_lists
from tests.plain_effects import (behind, image_along, is_right, just_300, late_clashes, plain_clash, plain_effects,
                                 plain_pairs, rows, some_cases, turns_of_ten)

READ = Misreading.read
WRONG, GOOD = READ("a:a c:yc e:xc n:n x:xf"), Right.over("ane")
TURN = READ("a:b b:c c:a")


def turned(misreadings, right, row, text):
    """Whether a row turns a text into another right text."""
    image = image_along(misreadings, row, text)
    return image is not None and image != text and is_right(right, image)


class DecideTests(Checks, unittest.TestCase):

    def test_against_all_short_texts_and_rows(self):
        kinds = {}
        for misreadings, right in some_cases(301, 220, "abc"):
            try:
                found = decide(misreadings, right)
            except TooMany:
                continue
            self.assertEqual(decide(tuple(misreadings), right=right), found)
            told = rows(len(misreadings), 4 if len(misreadings) < 3 else 3)
            clashes = [(len(row), row, len(text), text) for row in told for text in texts(right.letters, 4)
                       if is_right(right, text) and turned(misreadings, right, row, text)]
            if found:
                self.assertIs(type(found), Calm)
                self.assertEqual(clashes, [])
            else:
                self.assertIs(type(found), Clash)
                self.assertIs(type(found.row), tuple)
                self.assertTrue(is_right(right, found.text) and turned(misreadings, right, found.row, found.text))
                least = (len(found.row), found.row, len(found.text), found.text)
                self.assertGreaterEqual(min(clashes, default=least), least)
            kinds[type(found), len(misreadings)] = kinds.get((type(found), len(misreadings)), 0) + 1
        self.assertTrue(len(kinds) == 8 and min(kinds.values()) > 5, kinds)

    def test_the_least_row_and_text_by_a_second_way(self):
        sizes, lengths, kinds = set(), set(), {}
        for misreadings, right in [*some_cases(302, 150, "abcd", standings=6), *some_cases(305, 60, "abcde", 1, 6)]:
            plain = plain_effects(misreadings, right, 301)
            clashes = [(row, plain_clash(right, effect)) for row, effect in plain[:300]]
            clashes = [(row, text) for row, text in clashes if text is not None]
            if clashes:
                row, text = clashes[0]
                self.assertEqual(decide(misreadings, right), Clash(text, row))
                sizes.add(len(text))
                lengths.add(len(row))
                kind = "clash of many" if len(plain) > 300 else "clash"
            elif len(plain) > 300:
                self.assertRaisesWith(TooMany, ("effects", 300), decide, misreadings, right)
                kind = "too many"
            else:
                self.assertIs(type(decide(misreadings, right)), Calm)
                kind = "calm"
            kinds[kind] = kinds.get(kind, 0) + 1
        self.assertTrue(len(kinds) == 4 and min(kinds.values()) > 1, kinds)
        self.assertTrue({1, 2, 3} <= sizes and {1, 2, 3} <= lengths, (sizes, lengths))

    def test_entries(self):
        many = set()
        for misreadings, right in some_cases(303, 120, "abc"):
            plain = plain_effects(misreadings, right, 301)
            if len(plain) > 60 or not decide(misreadings, right):
                continue
            self.check_entries(misreadings, right, plain, decide(misreadings, right).entries)
            many.add(len(plain))
        self.assertTrue(len(many) > 8 and max(many) > 20, many)

    def check_entries(self, misreadings, right, plain, entries):
        self.assertIs(type(entries), tuple)
        self.assertEqual([type(entry) for entry in entries], [Entry] * len(plain))
        told = [row for row, effect in plain]
        made = [effect for row, effect in effects(misreadings, right)]
        for at, entry in enumerate(entries):
            row = told[at]
            self.assertLike((entry.first, entry.parent), (row[0], told.index(row[1:])) if row else (None, None))
            self.assertIs(type(entry.nexts), tuple)
            self.assertEqual([made[number] for number in entry.nexts],
                             [effect_of(misreadings, right, (first,) + row) for first in range(len(misreadings))])
            self.assertLike(entry.pairs, tuple(sorted(plain_pairs(right, plain[at][1]))))

    def test_pairs_are_those_of_some_texts(self):
        for misreadings, right in some_cases(304, 40, "ab", standings=3, misreadings=2):
            try:
                found = decide(misreadings, right)
            except TooMany:
                continue
            if found:
                for (row, effect), entry in zip(effects(misreadings, right), found.entries):
                    met = set()
                    for text in texts("ab", 7):
                        image = image_along(misreadings, row, text)
                        p, q = behind(right, 0, text), None if image is None else behind(right, 0, image)
                        if p is not None and q is not None:
                            met.add((p, q, image != text))
                    self.assertEqual(set(entry.pairs), met)

    def test_told_by_hand(self):
        self.assertEqual(decide([TURN], Right.words("a", "b")), Clash("a", (0,)))
        self.assertEqual(decide([TURN], Right.words("a", "c")), Clash("c", (0,)))
        self.assertEqual(decide([TURN], Right.words("ab", "ca")), Clash("ca", (0,)))
        self.assertEqual(decide([WRONG], Right.words()), Calm((Entry(None, None, (1,), ((0, 0, False),)),
                                                               Entry(0, 0, (2,), ((0, 0, False),)),
                                                               Entry(0, 1, (3,), ((0, 0, False),)),
                                                               Entry(0, 2, (3,), ((0, 0, False),)))))
        # Two letters of which both become another one: the first text is not that of the first row.
        self.assertEqual(decide([READ("a:b b:b"), READ("a:a c:a")], Right.words("a", "c", "b")), Clash("a", (0,)))
        self.assertEqual(decide([READ("a:a b:b"), READ("a:a c:a")], Right.words("a", "c")), Clash("c", (1,)))
        self.assertEqual(decide([READ("b:c"), READ("a:b")], Right.words("a", "c")), Clash("a", (1, 0)))
        # Of texts of the same length the first one ascending, of others the shortest one.
        self.assertEqual(decide([READ("a:b b:c c:c d:d")], Right.words("db", "bd", "dc", "cd", "add")), Clash("bd", (0,)))
        self.assertEqual(decide([READ("a:b b:c c:c d:d")], Right.words("aaa", "bbb", "d", "dd", "ddb", "ddc")), Clash("aaa", (0,)))

    def test_an_empty_list_of_texts_and_empty_texts(self):
        for right in (Right.words(), Right.words("")):
            self.assertTrue(decide([TURN, READ("a:aa")], right))
        self.assertEqual(len(decide([Misreading({})], Right.words("")).entries), 1)

    def test_just_300_effects_and_more(self):
        calm = decide(turns_of_ten(), Right.words("a"))
        self.assertEqual((type(calm), len(calm.entries)), (Calm, 300))
        self.assertIs(shows_verdict(turns_of_ten(), Right.words("a"), calm), True)
        more = [*turns_of_ten(), Misreading({})]
        self.assertRaisesWith(TooMany, ("effects", 300), decide, more, Right.words("a"))
        self.assertRaisesWith(TooMany, ("effects", 300), decide, more, Right.words())
        self.assertEqual(decide(more, Right.words("a", "b")), Clash("a", (0,)))
        misreading, right = just_300(more=True)
        self.assertEqual(decide([misreading], right), Clash("s", (0,)))

    def test_the_effect_with_the_number_300_is_one_too_many(self):
        for misreadings, right, text, row, number in late_clashes():
            plain = plain_effects(misreadings, right, 302)
            self.assertEqual([plain_clash(right, effect) is not None for row, effect in plain].index(True), number)
            self.assertEqual(plain[number][0], row)
            if number == 299:
                self.assertEqual(decide(misreadings, right), Clash(text, row))
                self.assertEqual(risk_of(misreadings, right, text), row)
            else:
                self.assertRaisesWith(TooMany, ("effects", 300), decide, misreadings, right)
                self.assertRaisesWith(TooMany, ("effects", 300), risk_of, misreadings, right, text)

    def test_wrong_arguments_in_their_order(self):
        for value, at in wrong_lists():
            self.assertRaisesWith(BadList, (at,), decide, value, 5)
            self.assertRaisesWith(BadList, (at,), risk_of, value, 5, 5)
        for value in values_but(lambda value: isinstance(value, Right)):
            self.assertRaisesWith(BadRight, ("right",), decide, [TURN], value)
            self.assertRaisesWith(BadRight, ("right",), risk_of, [TURN], value, 5)
        for value in [*values_but(is_text), "a" * 2001]:
            self.assertRaisesWith(BadWord, (value,), risk_of, [TURN], Right.words("a"), value)

    def test_later_changes_to_the_list(self):
        misreadings = [WRONG, TURN]
        calm = decide(misreadings, Right.words("aa", "n"))
        told = decide([WRONG, TURN], Right.words("aa", "n"))
        misreadings.clear()
        self.assertTrue(calm)
        self.assertEqual(calm, told)


class RiskTests(Checks, unittest.TestCase):

    def test_against_all_rows(self):
        kinds = set()
        for misreadings, right in [*some_cases(311, 100, "abc"), *some_cases(313, 60, "abcde", 1, 6)]:
            plain = plain_effects(misreadings, right, 301)
            for text in texts("abc", 3) + texts("de", 2)[1:]:
                if not is_right(right, text):
                    self.assertRaisesWith(BadRight, ("text",), risk_of, misreadings, right, text)
                    continue
                told = [row for row, effect in plain[:300] if self.turned_by(right, effect, text)]
                if told:
                    self.assertLike(risk_of(misreadings, right, text), told[0])
                    if len(told[0]) < 5:
                        self.assertTrue(turned(misreadings, right, told[0], text))
                elif len(plain) > 300:
                    self.assertRaisesWith(TooMany, ("effects", 300), risk_of, misreadings, right, text)
                else:
                    self.assertIsNone(risk_of(misreadings=misreadings, right=right, text=text))
                kinds.add((bool(told), len(plain) > 300))
        self.assertEqual(len(kinds), 4)

    def turned_by(self, right, effect, text):
        """Whether a plain effect turns a text into another right text."""
        at, changed = 0, False
        for letter in text:
            if effect[letter] is None or at is None:
                return False
            at = effect[letter][0][at]
            changed = changed or effect[letter][1] != letter
        return changed and at is not None and right.standings[at][1]

    def test_against_short_rows(self):
        for misreadings, right in some_cases(312, 60, "abc", misreadings=2):
            for text in texts(right.letters, 3):
                if is_right(right, text):
                    least = next((row for row in rows(len(misreadings), 4) if turned(misreadings, right, row, text)), None)
                    try:
                        found = risk_of(misreadings, right, text)
                    except TooMany:
                        found = None
                    self.assertTrue(found == least if least is not None else found is None or len(found) > 4)

    def test_told_by_hand(self):
        more = Right.over("anexc")
        self.assertEqual([risk_of([WRONG], more, text) for text in ("ae", "ax", "", "eeee")], [(0,), None, None, (0,)])
        self.assertEqual(risk_of([TURN], Right.words("a", "c"), "a"), (0, 0))
        self.assertRaisesWith(BadRight, ("text",), risk_of, [WRONG], GOOD, "axc")
        self.assertRaisesWith(BadRight, ("text",), risk_of, [TURN], Right.words(), "")

    def test_just_300_effects_and_more(self):
        turns = turns_of_ten()
        self.assertIsNone(risk_of(turns, Right.words("a", "f"), "a"))
        self.assertRaisesWith(TooMany, ("effects", 300), risk_of, [*turns, Misreading({})], Right.words("a", "f"), "a")
        self.assertRaisesWith(BadRight, ("text",), risk_of, [*turns, Misreading({})], Right.words("a", "f"), "b")
        misreading, right = just_300(more=True)
        self.assertEqual(risk_of([misreading], right, "x"), (0,) * 8)
        self.assertRaisesWith(TooMany, ("effects", 300), risk_of, [misreading], right, "")

    def test_long_texts(self):
        right = Right.over("ae")
        self.assertEqual(risk_of([READ("a:a e:ea")], right, "a" * 1999 + "e"), (0,))
        self.assertIsNone(risk_of([READ("a:a e:ea")], right, "a" * 2000))


class ShownTests(Checks, unittest.TestCase):

    def test_what_decide_returns(self):
        kinds = {}
        for misreadings, right in some_cases(321, 200, "abcd", standings=6):
            try:
                found = decide(misreadings, right)
            except TooMany:
                continue
            self.assertIs(shows_verdict(misreadings, right, found), True)
            self.assertIs(shows_verdict(tuple(misreadings), right=right, value=found), True)
            kinds[type(found)] = kinds.get(type(found), 0) + 1
        self.assertGreater(min(kinds[Calm], kinds[Clash]), 40)


if __name__ == "__main__":
    unittest.main()
