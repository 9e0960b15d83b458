import itertools
import random
import unittest

from blindrepair.errors import BadNumber, BadTable, BadWord, TooMany
from blindrepair.misreadings import Misreading
from blindrepair.mixed import Blurred, Readable, mixed, shows_mixed
from tests.helpers import Checks, any_values, like, texts, values_but
from tests.meeting_ways import ahead_by
from tests.plain_effects import image_along, some_cases

READ = Misreading.read
ONCE = Misreading({"e": "xc", "x": "xf", "c": "c", "f": "f"})


def cases(seed, many, letters="abcd"):
    """A misreading, letters and a number each, the same ones for each seed."""
    chance = random.Random(seed)
    for misreadings, _ in some_cases(seed, many, letters, longest=4, misreadings=1):
        some = [letter for letter in letters if chance.random() < 0.6] or [letters[0]]
        chance.shuffle(some)
        yield misreadings[0], "".join(some), chance.randint(0, 3)


def plain_words(misreading, letters, most):
    """For each letter a dict from numbers of times to words."""
    words = {}
    for letter in letters:
        images = {number: image_along([misreading], (0,) * number, letter) for number in range(most + 1)}
        words[letter] = {number: image for number, image in images.items() if image is not None}
    return words


def all_becomings(words, text):
    """All pairs of counts and what a text becomes by them."""
    for counts in itertools.product(*[sorted(words[letter]) for letter in text]):
        yield counts, "".join(words[letter][count] for letter, count in zip(text, counts))


def two_blurred(words, letters, most):
    """Two short texts of which the same text comes, with their counts; None if there are none."""
    known = {}
    for text in texts(letters, most):
        for counts, made in all_becomings(words, text):
            if known.setdefault(made, (text, counts))[0] != text:
                return (*known[made], text, counts)
    return None


def plain_papers(words):
    """Leads and dead rests by rows of pairs that are joined; leads are None if some meeting is unlike."""
    pairs = sorted({(word, letter) for letter in words for word in words[letter].values()})
    reached, edges, ends = {}, {}, set()
    waiting = [((word,), letter, (), "") for word, letter in pairs]
    seen = set()
    unlike = False
    while waiting:
        first, one, second, other = waiting.pop()
        rest = ahead_by("".join(first), "".join(second))
        lead = ahead_by(one, other)
        if (rest, lead) in seen:
            continue
        seen.add((rest, lead))
        reached.setdefault(rest, set()).add(lead)
        # With three leads a rest is dead, or some meeting behind it is unlike; its steps are known by then.
        if len(reached[rest]) > 3:
            continue
        edges.setdefault(rest, set())
        for word, letter in pairs:
            made = (first, one, second + (word,), other + letter) if rest[0] == "one" else (
                first + (word,), one + letter, second, other)
            target = ahead_by("".join(made[0]), "".join(made[2]))
            if target is None:
                continue
            if target[1] == "":
                ends.add(rest)
                unlike = unlike or made[1] != made[3]
            else:
                edges[rest].add(target)
                waiting.append(made)
    living = set(ends)
    while any(rest not in living and edges[rest] & living for rest in edges):
        living |= {rest for rest in edges if edges[rest] & living}
    if unlike or any(len(reached[rest]) > 1 or None in reached[rest] for rest in living):
        return None, None
    return (tuple(sorted(rest + next(iter(reached[rest])) for rest in living)), tuple(sorted(set(edges) - living)))


def is_blurred(words, one, counts, other, others):
    """Whether four values are two unlike texts with counts of which the same text comes."""
    made = []
    for text, times in ((one, counts), (other, others)):
        if type(text) is not str or type(times) is not tuple or any(letter not in words for letter in text):
            return False
        if len(times) != len(text) or any(type(number) is not int for number in times):
            return False
        if any(number not in words[letter] for letter, number in zip(text, times)):
            return False
        made.append("".join(words[letter][number] for letter, number in zip(text, times)))
    return one != other and made[0] == made[1]


class MixedTests(Checks, unittest.TestCase):

    def test_against_a_search_over_short_texts(self):
        results = set()
        for misreading, letters, most in cases(1001, 500):
            words = plain_words(misreading, letters, most)
            if any(len(word) > 16 for letter in letters for word in words[letter].values()):
                self.assertRaisesWith(TooMany, ("image", 16), mixed, misreading, letters, most)
                results.add("many")
                continue
            found = mixed(misreading=misreading, letters=letters, most=most)
            pair = two_blurred(words, letters, 4 if len(letters) < 3 else 3)
            if found:
                self.assertIs(type(found), Readable)
                self.assertIsNone(pair)
            else:
                self.assertIs(type(found), Blurred)
                self.assertTrue(is_blurred(words, found.one, found.counts, found.other, found.others))
                results.add(max(len(found.one), len(found.other)))
            self.assertIs(shows_mixed(misreading=misreading, letters=letters, most=most, value=found), True)
            self.assertTrue(found == mixed(misreading, letters, most))
            results.add((most, bool(found)))
        self.assertTrue({"many", 1, 2, 3, (0, True), (1, True), (1, False), (2, True), (2, False), (3, True), (3, False)}
                        <= results, results)

    def test_papers_by_a_plain_way(self):
        sizes = set()
        for misreading, letters, most in cases(1002, 500, "abc"):
            try:
                found = mixed(misreading, letters, most)
            except TooMany:
                continue
            leads, dead = plain_papers(plain_words(misreading, letters, most))
            self.assertEqual(bool(found), leads is not None)
            if found:
                self.assertLike(found.leads, leads)
                self.assertLike(found.dead, dead)
                sizes.add((len(leads) > 3, len(dead) > 1))
        self.assertEqual(len(sizes), 4)

    def test_told_by_hand(self):
        found = mixed(ONCE, "ex", 1)
        self.assertLike(found.leads, (("one", "e", "one", "e"), ("one", "x", "one", "x"), ("one", "xc", "one", "e"),
                                      ("one", "xf", "one", "x")))
        self.assertLike(found.dead, (("one", "c"), ("one", "f"), ("two", "c"), ("two", "f")))
        self.assertIs(bool(mixed(ONCE, "cex", 1)), False)
        for most in range(4):
            self.assertIs(bool(mixed(ONCE, "e", most)), True)
        # a is x once and y twice; b is y once: a text y can be both.
        chain = READ("a:x b:y x:y")
        self.assertIs(bool(mixed(chain, "ab", 1)), True)
        self.assertIs(bool(mixed(chain, "ab", 2)), False)
        self.assertIs(shows_mixed(chain, "ab", 2, Blurred("a", (2,), "b", (1,))), True)
        # With no misreading each letter is what it is.
        self.assertLike(mixed(READ("a:b b:a"), "ba", 0).leads, (("one", "a", "one", "a"), ("one", "b", "one", "b")))
        self.assertIs(bool(mixed(READ("a:b b:a"), "ba", 1)), False)

    def test_letters_that_are_barred_at_once_or_after_some_times(self):
        # b is barred at once, and a behind one misreading: a is a, or b, which no further misreading reads.
        some = READ("a:b")
        for most in (1, 2, 3):
            self.assertIs(bool(mixed(some, "ab", most)), False)
            self.assertIs(shows_mixed(some, "ab", most, Blurred("a", (1,), "b", (0,))), True)
            self.assertIs(bool(mixed(some, "a", most)), True)
            self.assertIs(shows_mixed(some, "ab", most, Blurred("a", (1,), "b", (1,))), False)
            self.assertIs(shows_mixed(some, "ab", most, Blurred("aa", (1, 2), "ba", (0, 2))), False)
            self.assertIs(shows_mixed(some, "ab", most, Blurred("aa", (1, 1), "ba", (0, 1))), True)
        self.assertIs(bool(mixed(some, "ab", 0)), True)
        self.assertLike(mixed(Misreading({}), "zy", 3).leads, (("one", "y", "one", "y"), ("one", "z", "one", "z")))
        # c becomes d, which has an image, and e, which has none.
        chain = READ("c:d d:e")
        self.assertLike([lead[1] for lead in mixed(chain, "c", 3).leads], ["c", "d", "e"])
        self.assertLike([lead[1] for lead in mixed(chain, "c", 1).leads], ["c", "d"])

    def test_words_of_16_and_17_letters(self):
        four = READ("a:aaaa b:b c:d")
        self.assertIs(bool(mixed(four, "b", 3)), True)
        self.assertIs(bool(mixed(four, "a", 2)), False)
        self.assertRaisesWith(TooMany, ("image", 16), mixed, four, "a", 3)
        self.assertRaisesWith(TooMany, ("image", 16), mixed, four, "cba", 3)
        self.assertRaisesWith(TooMany, ("image", 16), shows_mixed, four, "a", 3, 5)
        more = READ("a:aaab b:bcc c:c")
        self.assertEqual(len(image_along([more], (0, 0), "a")), 15)
        self.assertIs(bool(mixed(more, "a", 2)), True)
        more = READ("a:aaab b:bccc c:c")
        self.assertEqual(len(image_along([more], (0, 0), "a")), 16)
        self.assertIs(bool(mixed(more, "a", 2)), True)
        self.assertRaisesWith(TooMany, ("image", 16), mixed, more, "a", 3)
        long = READ("a:ab b:b") ** 16
        self.assertRaisesWith(TooMany, ("image", 16), mixed, long, "a", 1)
        self.assertIs(bool(mixed(long, "a", 0)), True)
        self.assertIs(bool(mixed(long, "b", 3)), True)
        self.assertIs(bool(mixed(READ("a:ab b:b") ** 15, "a", 1)), True)
        # A word that is too long is one, though no further misreading can happen to it.
        barred = READ("a:bbbb b:cccc c:dddd")
        self.assertRaisesWith(TooMany, ("image", 16), mixed, barred, "a", 3)
        self.assertIs(bool(mixed(barred, "a", 2)), True)

    def test_ten_letters(self):
        ten = READ("a:b b:c c:d d:e e:f f:g g:h h:i i:j j:k")
        self.assertIs(bool(mixed(ten, "abcdefghij", 0)), True)
        self.assertIs(bool(mixed(ten, "acegi", 1)), True)
        self.assertIs(bool(mixed(ten, "abcdefghij", 1)), False)
        self.assertIs(bool(mixed(ten, "jihgfedcba", 3)), False)

    def test_texts_that_are_far_apart(self):
        """Only long texts of such words are alike: the counts are found for them, too."""
        many = set()
        for told, letters, most in (("a:ab b:ba c:abab", "abc", 1), ("a:aab b:aba c:baab", "abc", 1), ("a:bab b:b c:abb", "ac", 2),
                                    ("a:abc b:cab c:c", "abc", 2), ("a:xyx b:yx c:xy x:x y:y", "abc", 1),
                                    ("a:xxy b:yxx c:x d:xyxx", "abcd", 1), ("a:xyyx b:yx c:yyxx d:xy", "bcda", 1)):
            found = mixed(READ(told), letters, most)
            self.assertIs(shows_mixed(READ(told), letters, most, found), True)
            if not found:
                self.assertTrue(is_blurred(plain_words(READ(told), letters, most), *vars(found).values()))
                many.add(len(found.one) + len(found.other))
        self.assertTrue(max(many) > 4, many)

    def test_wrong_letters(self):
        wrong = values_but(lambda value: type(value) is str and value.isalpha() and value.islower()
                           and len(set(value)) == len(value))
        for value in [*wrong, "", "aa", "aba", "abcdefghijk", "A", "a b", ["a"], ("a",), "abcdefghija", "aa" * 600]:
            for most in (0, 5, None):
                self.assertRaisesWith(BadWord, (value,), mixed, ONCE, value, most)
                self.assertRaisesWith(BadWord, (value,), shows_mixed, ONCE, value, most, 5)

    def test_wrong_numbers(self):
        four = READ("a:aaaa")
        for value in [*values_but(lambda value: type(value) is int and 0 <= value <= 3), -1, 4, True, False, 1.0, "1"]:
            self.assertRaisesWith(BadNumber, (value,), mixed, four, "a", value)
            self.assertRaisesWith(BadNumber, (value,), shows_mixed, four, "a", value, 5)

    def test_wrong_misreadings(self):
        for value in values_but(lambda value: isinstance(value, Misreading)):
            self.assertRaisesWith(BadTable, ("misreading",), mixed, value, "", 5)
            self.assertRaisesWith(BadTable, ("misreading",), shows_mixed, value, "", 5, 5)


class ShowsTests(Checks, unittest.TestCase):

    def test_readables_spoilt_in_each_attribute(self):
        found = mixed(ONCE, "ex", 1)
        leads, dead = found.leads, found.dead

        def shown(some, others):
            return shows_mixed(ONCE, "ex", 1, Readable(some, others))
        self.assertIs(shown(leads, dead), True)
        self.assertIs(shown(leads[::-1], dead[::-1]), True)
        self.assertIs(shown(leads + (("one", "zz", "two", "e"),), dead + (("two", "zz"),)), True)
        for wrong in (leads[1:], leads + leads[:1], list(leads), leads[:3] + (leads[3][:3],), leads[:3] + (list(leads[3]),),
                      leads[:3] + (("one", "xf", "two", "x"),), leads[:3] + (("one", "xf", "one", "e"),),
                      leads[:3] + (("one", "xf", "one", ""),), leads + (("one", "c", "one", "x"),), (), None):
            self.assertIs(shown(wrong, dead), False, wrong)
        for wrong in (dead[1:], dead + dead[:1], list(dead), dead[:3] + (list(dead[3]),), dead + (("one", "e"),), (), None,
                      dead[:3] + (("two", "f", "x"),), dead + (("three", "z"),), dead + (("one", ""),)):
            self.assertIs(shown(leads, wrong), False, wrong)
        for value in any_values():
            self.assertIs(shown(value, dead), False)
            self.assertIs(shown(leads, value), False)
            self.assertIs(shown(leads + (value,), dead), False)
            self.assertIs(shown(leads, dead + (value,)), False)
            for at in range(4):
                lead = leads[0][:at] + (value,) + leads[0][at + 1:]
                self.assertIs(shown((lead,) + leads[1:], dead), like(lead, leads[0]))

    def test_readables_of_other_words(self):
        found = mixed(ONCE, "ex", 1)
        self.assertIs(shows_mixed(ONCE, "xe", 1, found), True)
        self.assertIs(shows_mixed(ONCE, "ex", 0, found), True)
        self.assertIs(shows_mixed(ONCE, "ex", 2, found), False)
        self.assertIs(shows_mixed(ONCE, "cex", 1, found), False)
        self.assertIs(shows_mixed(ONCE, "fex", 1, found), False)
        self.assertIs(shows_mixed(ONCE, "e", 1, found), True)

    def test_no_readable_is_right_where_texts_are_blurred(self):
        many = 0
        for misreading, letters, most in cases(1011, 200, "abc"):
            try:
                found = mixed(misreading, letters, most)
            except TooMany:
                continue
            if not found:
                many += 1
                for other, number in itertools.product(("a", "b", "ab", "c", letters), range(4)):
                    try:
                        paper = mixed(misreading, other, number)
                    except TooMany:
                        continue
                    if paper:
                        self.assertIs(shows_mixed(misreading, letters, most, paper), False)
        self.assertGreater(many, 30)

    def test_blurreds_of_all_short_texts(self):
        results = {True: 0, False: 0}
        for misreading, letters, most in cases(1012, 300, "abc"):
            words = plain_words(misreading, letters, most)
            if any(len(word) > 16 for letter in letters for word in words[letter].values()):
                continue
            rows = [(text, counts) for text in texts(letters, 2) for counts in itertools.product(range(4), repeat=len(text))]
            chance = random.Random(1012)
            for _ in range(150):
                one, other = chance.choice(rows), chance.choice(rows)
                expected = is_blurred(words, *one, *other)
                self.assertIs(shows_mixed(misreading, letters, most, Blurred(*one, *other)), expected)
                results[expected] += 1
        self.assertGreater(min(results.values()), 20, results)

    def test_blurreds_spoilt_in_each_attribute(self):
        good = ("e", (1,), "xc", (0, 0))
        self.assertIs(shows_mixed(ONCE, "cex", 1, Blurred(*good)), True)
        self.assertIs(shows_mixed(ONCE, "cex", 1, Blurred(*good[2:], *good[:2])), True)
        self.assertIs(shows_mixed(ONCE, "cex", 1, Blurred("ee", (1, 0), "xce", (0, 1, 0))), True)
        for value in [*any_values(), "xc", "ex", (0, 0), (1, 0), (0, 1), [1], (True,), (2,), (-1,), (1, 1), (1.0,), "1",
                      (False, 0), (0, False), ("0", 0), (None,), (0, 0, 0), "xcc", "f", "z", "E"]:
            for at in range(4):
                made = list(good)
                made[at] = value
                expected = is_blurred(plain_words(ONCE, "cex", 1), *made)
                self.assertIs(shows_mixed(ONCE, "cex", 1, Blurred(*made)), expected, made)
                # Only c can be another number of times there, as it stays what it is.
                self.assertEqual(expected, like(made, list(good)) or (at == 3 and like(value, (0, 1))))
        for wrong in (("e", (1,), "e", (1,)), ("", (), "", ()), ("e", (0,), "e", (1,)), ("f", (0,), "f", (1,)),
                      ("e", (1,), "xc", (0,)), ("e", (1, 0), "xc", (0, 0)), ("e", (), "xc", ())):
            self.assertIs(shows_mixed(ONCE, "cex", 1, Blurred(*wrong)), False)
        # x is no letter of these texts, though it has an image.
        self.assertIs(shows_mixed(ONCE, "ce", 1, Blurred(*good)), False)
        self.assertIs(shows_mixed(ONCE, "cex", 0, Blurred(*good)), False)

    def test_blurreds_of_long_texts(self):
        for size, expected in ((1000, True), (1001, False)):
            value = Blurred("e" * size, (1,) * size, "xc" * size, (0,) * (2 * size))
            self.assertIs(shows_mixed(ONCE, "cex", 1, value), expected)
        eight = READ("a:bbbb b:bb c:bbbb")
        self.assertIs(shows_mixed(eight, "ac", 2, Blurred("a" * 2000, (2,) * 2000, "c" * 2000, (2,) * 2000)), True)
        self.assertIs(shows_mixed(eight, "ac", 2, Blurred("a" * 2000, (2,) * 2000, "c" * 2000, (2,) * 1999)), False)

    def test_other_values(self):
        for value in any_values():
            self.assertIs(shows_mixed(ONCE, "cex", 1, value), False)
            self.assertIs(shows_mixed(ONCE, "ex", 1, value), False)


if __name__ == "__main__":
    unittest.main()
