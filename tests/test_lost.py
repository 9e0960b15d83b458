import itertools
import random
import unittest

from blindrepair.errors import BadNumber, BadRight, BadTable, TooMany
from blindrepair.lost import Kept, KeptAll, Lost, ever_lost, lost, shows_lost
from blindrepair.merging import merging
from blindrepair.misreadings import Misreading
from blindrepair.rights import Right
from tests.helpers import Checks, any_values, like, texts, values_but
from tests.plain_effects import behind, image_along, is_right, some_cases

READ = Misreading.read
LATE = READ("a:c b:d c:e d:e e:e")
TWICE = READ("c:c e:xc f:f x:xf")


def cases(seed, many, letters="abcd"):
    """A misreading and a right set each, the same ones for each seed."""
    for misreadings, right in some_cases(seed, many, letters, misreadings=1):
        yield misreadings[0], right


def one_pair(misreading, right, number, letters, most):
    """Two unlike short right texts that become one, by a search over all of them; None if there are none."""
    known = {}
    for text in texts(letters, most):
        image = image_along([misreading], (0,) * number, text) if is_right(right, text) else None
        if image is not None and image in known:
            return known[image], text
        if image is not None:
            known[image] = text
    return None


def rest_of_texts(misreading, right, number, one, other):
    """The rest of two texts, read off the texts themselves; None if there is none."""
    row = (0,) * number
    first, second = image_along([misreading], row, one), image_along([misreading], row, other)
    p, q = behind(right, 0, one), behind(right, 0, other)
    if None in (first, second, p, q):
        return None
    if first.startswith(second):
        return (0, first[len(second):], p, q)
    return (1, second[len(first):], p, q) if second.startswith(first) else None


def plain_dead(misreading, right, number, letters):
    """All rests, by pairs of texts that are read letter by letter."""
    waiting = []
    for text in texts(letters, len(right.standings) - 1):
        for one, other in itertools.combinations(sorted(letters), 2):
            waiting.append((text + one, text + other))
    found = set()
    while waiting:
        one, other = waiting.pop()
        rest = rest_of_texts(misreading, right, number, one, other)
        if rest is not None and rest not in found:
            found.add(rest)
            for letter in letters:
                waiting.append((one, other + letter) if rest[0] == 0 else (one + letter, other))
    return tuple(sorted(found))


def is_lost(misreading, right, number, one, other):
    """Whether two values are unlike right texts that so many misreadings make one."""
    if type(one) is not str or type(other) is not str or not is_right(right, one) or not is_right(right, other):
        return False
    image = image_along([misreading], (0,) * number, one)
    return one != other and image is not None and image == image_along([misreading], (0,) * number, other)


class LostTests(Checks, unittest.TestCase):

    def test_against_a_search_over_short_texts(self):
        results = set()
        for misreading, right in cases(701, 250):
            for number in (1, 2, 3):
                try:
                    found = lost(misreading=misreading, right=right, number=number)
                except TooMany:
                    continue
                pair = one_pair(misreading, right, number, "abcd", 4)
                if found:
                    self.assertIsNone(pair)
                    self.assertIs(type(found), Kept)
                    self.assertLike(found.number, number)
                else:
                    self.assertIs(type(found), Lost)
                    self.assertLike(found.number, number)
                    self.assertTrue(is_lost(misreading, right, number, found.one, found.other))
                    results.add(max(len(found.one), len(found.other)))
                self.assertIs(shows_lost(misreading, right, found), True)
                self.assertTrue(found == lost(misreading, right, number))
                results.add((number, bool(found)))
        self.assertTrue({1, 2, (1, True), (1, False), (2, True), (2, False), (3, True), (3, False)} <= results, results)

    def test_all_numbers(self):
        results = set()
        for misreading, right in [*cases(702, 40, "abc"), (LATE, Right.words("a", "b")), (TWICE, Right.over("cefx"))]:
            for number in range(1, 13):
                try:
                    found = lost(misreading, right, number)
                except TooMany:
                    results.add("many")
                    continue
                if not found:
                    self.assertTrue(is_lost(misreading, right, number, found.one, found.other))
                else:
                    self.assertIsNone(one_pair(misreading, right, number, "abc", 3))
                self.assertIs(shows_lost(misreading, right, found), True)
                results.add((number, bool(found)))
        self.assertEqual(len(results), 25)

    def test_dead_by_a_plain_way(self):
        sizes = set()
        for misreading, right in cases(703, 250, "abc"):
            for number in (1, 2, 4):
                try:
                    found = lost(misreading, right, number)
                except TooMany:
                    continue
                dead = plain_dead(misreading, right, number, "abc")
                if found:
                    self.assertLike(found.dead, dead)
                    sizes.add(len(dead))
                # Something is lost exactly if a rest has an empty word and two ends.
                ends = [rest for rest in dead if rest[1] == "" and all(right.standings[at][1] for at in rest[2:])]
                self.assertEqual(bool(found), not ends)
        self.assertTrue({0, 1, 2, 4, 6, 8} <= sizes, sizes)

    def test_dead_told_by_hand(self):
        """xc and x: behind e and x the first image is longer by c, which no right text goes on with."""
        once, right = READ("e:xc f:f x:x"), Right.over("efx")
        self.assertLike(lost(once, right, 1), Kept(1, ((0, "c", 0, 0),)))
        more = READ("c:c e:xc f:f x:x")
        self.assertEqual(bool(lost(more, Right.over("cefx"), 1)), False)
        # c is right at the beginning alone, so xc stands for e alone; the end behind e and x is c ahead of nothing.
        begun = Right(({"c": 1, "e": 1, "x": 1}, False), ({"e": 1, "f": 1, "x": 1}, True))
        self.assertLike(lost(more, begun, 1), Kept(1, ((0, "c", 1, 1),)))
        # b is the one whose letter is greater, and its image is the longer one.
        self.assertLike(lost(READ("a:x b:xc"), Right.over("ab"), 1), Kept(1, ((1, "c", 0, 0),)))
        # Both images are the same, but only one of the two texts can end there; b goes on, and y is no beginning of x.
        self.assertLike(lost(READ("a:x b:x c:c"), Right.words("a", "bc"), 1), Kept(1, ((0, "", 1, 2), (1, "c", 1, 1))))

    def test_the_second_text_goes_on_when_none_is_behind(self):
        both = READ("a:x b:x c:y d:y")
        right = Right.words("ac", "bcc", "bd")
        self.assertEqual(str(right), "a>1 b>2 / c>3 / c>1 d>3 / end")
        found = lost(both, right, 1)
        self.assertTrue(is_lost(both, right, 1, found.one, found.other))
        # Behind a and b none is behind, so b goes on with c and then a, which is behind, with c.
        right = Right.words("ac", "bcc")
        self.assertEqual(str(right), "a>1 b>2 / c>3 / c>1 / end")
        self.assertLike(lost(both, right, 1), Kept(1, ((0, "", 1, 2), (0, "", 3, 1), (1, "y", 1, 1), (1, "y", 3, 3))))

    def test_barred_letters(self):
        # a and b both become c, which has no image: one misreading loses them, two cannot happen.
        barred, two = READ("a:c b:c"), Right.words("a", "b")
        found = lost(barred, two, 1)
        self.assertEqual({found.one, found.other}, {"a", "b"})
        for number in range(2, 13):
            self.assertLike(lost(barred, two, number), Kept(number, ()))
        # Barred behind a parting, ahead of it, and as one of its letters.
        right = Right.words("axd", "bd")
        self.assertEqual(str(right), "a>1 b>2 / x>2 / d>3 / end")
        self.assertLike(lost(READ("a:x b:xx c:c"), right, 1), Kept(1, ((1, "x", 1, 2),)))
        self.assertLike(lost(READ("a:x b:x"), Right.words("da", "db"), 1), Kept(1, ()))
        self.assertLike(lost(READ("a:x"), two, 1), Kept(1, ()))
        # Barred after two times: a, b, c and then nothing.
        late = READ("a:b b:c d:b")
        self.assertIs(bool(lost(late, Right.words("a", "d"), 2)), False)
        self.assertLike(lost(late, Right.words("a", "d"), 3), Kept(3, ()))

    def test_one_to_one(self):
        many = 0
        for misreading, right in cases(704, 300, "abc"):
            if merging(misreading):
                many += 1
                for number in (1, 2, 3):
                    try:
                        self.assertIs(bool(lost(misreading, right, number)), True)
                    except TooMany:
                        pass
        self.assertGreater(many, 40)

    def test_right_sets_without_pairs(self):
        for right in (Right.words(), Right.words(""), Right.words("a"), Right.over("a")):
            self.assertLike(lost(READ("a:c b:c"), right, 1), Kept(1, ()))
        self.assertLike(lost(Misreading({}), Right.over("ab"), 12), Kept(12, ()))

    def test_images_of_64_and_65_letters(self):
        two = READ("a:aa b:b")
        self.assertIs(bool(lost(two, Right.over("ab"), 6)), True)
        for number in range(7, 13):
            self.assertRaisesWith(TooMany, ("image", 64), lost, two, Right.over("b"), number)
        four = READ("a:aaaa b:b") ** 3
        self.assertEqual(len(four["a"]), 64)
        self.assertIs(bool(lost(four, Right.over("ab"), 1)), True)
        self.assertRaisesWith(TooMany, ("image", 64), lost, four, Right.over("ab"), 2)
        # 64 letters b and 64 letters c, then 65 of both.
        self.assertIs(bool(lost(READ("a:aab b:b"), Right.over("ab"), 5)), True)
        more = READ("a:bbbb b:cccc c:dddd d:d e:de")
        self.assertIs(bool(lost(more, Right.over("abcde"), 2)), False)
        self.assertIs(bool(lost(more, Right.over("abcde"), 3)), False)
        more = READ("a:bbbb b:cccc c:dddd d:dd e:de")
        self.assertRaisesWith(TooMany, ("image", 64), lost, more, Right.over("abcde"), 4)
        more = READ("a:bbbb b:cccc c:ddde d:d e:ed")
        self.assertRaisesWith(TooMany, ("image", 64), lost, more, Right.over("d"), 4)

    def test_images_that_are_long_on_the_way_and_barred_behind(self):
        # Behind four misreadings a is 256 letters e, behind five it is barred, and so are all others.
        long = READ("a:bbbb b:cccc c:dddd d:eeee")
        for number in range(1, 13):
            if number == 4:
                self.assertRaisesWith(TooMany, ("image", 64), lost, long, Right.over("abcd"), number)
            elif number > 4:
                self.assertLike(lost(long, Right.over("abcd"), number), Kept(number, ()))

    def test_wrong_numbers(self):
        right = Right.words("e")
        for value in [*values_but(lambda value: type(value) is int and 1 <= value <= 12), 0, 13, True, "1", None, -1, 1.0]:
            self.assertRaisesWith(BadNumber, (value,), lost, TWICE, right, value)
            # Ahead of images that are too long.
            self.assertRaisesWith(BadNumber, (value,), lost, READ("a:aaaa") ** 3, right, value)

    def test_wrong_arguments_in_their_order(self):
        for value in values_but(lambda value: isinstance(value, Misreading)):
            self.assertRaisesWith(BadTable, ("misreading",), lost, value, 5, 0)
            self.assertRaisesWith(BadTable, ("misreading",), ever_lost, value, 5)
            self.assertRaisesWith(BadTable, ("misreading",), shows_lost, value, 5, Lost(1, "a", "b"))
        long = READ("a:aaaa") ** 3
        for value in values_but(lambda value: isinstance(value, Right)):
            self.assertRaisesWith(BadRight, ("right",), lost, long, value, 0)
            self.assertRaisesWith(BadRight, ("right",), ever_lost, long, value)
            self.assertRaisesWith(BadRight, ("right",), shows_lost, long, value, Lost(1, "a", "b"))


class EverLostTests(Checks, unittest.TestCase):

    def test_against_lost_for_each_number(self):
        results = set()
        for misreading, right in cases(711, 300):
            try:
                found = ever_lost(misreading=misreading, right=right)
            except TooMany:
                continue
            if not found:
                self.assertIs(type(found), Lost)
                self.assertTrue(is_lost(misreading, right, found.number, found.one, found.other))
                for number in range(1, found.number):
                    self.assertIs(bool(lost(misreading, right, number)), True)
                results.add(found.number)
            elif merging(misreading):
                self.assertLike(found, KeptAll(()))
                results.add("one to one")
            else:
                self.assertEqual(found, KeptAll(tuple(lost(misreading, right, number)
                                                      for number in range(1, len(misreading) + 1))))
                self.assertTrue(all(type(kept) is Kept for kept in found.keeps))
                results.add("kept")
            self.assertIs(shows_lost(misreading, right, found), True)
        self.assertTrue({1, 2, "one to one", "kept"} <= results, results)

    def test_a_loss_at_the_number_of_the_letters(self):
        """Two of six letters are brought together, one place nearer with each misreading."""
        for told, words, number in (("a:c b:d c:e d:e e:e", ("a", "b"), 2), ("a:b b:c c:c", ("a", "c"), 2),
                                    ("a:b b:c c:d d:e e:f f:f", ("a", "f"), 5), ("a:b b:c c:d d:d", ("a", "b"), 3)):
            found = ever_lost(READ(told), Right.words(*words))
            self.assertEqual((found.number, {found.one, found.other}), (number, set(words)))
        found = ever_lost(READ("a:b b:b"), Right.words("a", "b"))
        self.assertEqual(found.number, 1)

    def test_nothing_is_lost_later_than_that(self):
        """Fact [9]: what any number loses, a number up to that of the letters with an image loses."""
        results = set()
        for misreading, right in cases(712, 200, "abc"):
            try:
                found = ever_lost(misreading, right)
                later = [bool(lost(misreading, right, number)) for number in range(len(misreading) + 1, 9)]
            except TooMany:
                continue
            if found:
                self.assertEqual(later, [True] * len(later))
            results.add(bool(found))
        self.assertEqual(results, {True, False})

    def test_keeps_with_and_without_one_to_one(self):
        self.assertLike(ever_lost(TWICE, Right.over("cefx")), KeptAll(()))
        self.assertLike(ever_lost(Misreading({}), Right.over("ab")), KeptAll(()))
        self.assertEqual(len(ever_lost(LATE, Right.words("a", "cc")).keeps), 5)
        self.assertEqual(ever_lost(READ("a:c b:c"), Right.words("a", "c")),
                         KeptAll((Kept(1, ()), Kept(2, ()))))

    def test_errors_of_merging_then_of_lost(self):
        nine = READ("a:ab b:b") ** 8
        self.assertRaisesWith(TooMany, ("image", 8), ever_lost, nine, Right.over("a"))
        self.assertRaisesWith(TooMany, ("image", 8), ever_lost, nine | READ("c:b"), Right.words("c", "b"))
        # One to one: no number is looked at, though the fourth would have more than 64 letters.
        self.assertLike(ever_lost(READ("a:aaaa b:b c:c d:d"), Right.over("a")), KeptAll(()))
        more = READ("a:aaaa b:b c:b d:d")
        self.assertRaisesWith(TooMany, ("image", 64), ever_lost, more, Right.words("d", "b"))
        self.assertEqual(ever_lost(more, Right.words("b", "c")).number, 1)
        # Lost by the third misreading, while the fourth one raises; and by the fifth one, behind that.
        late = READ("a:b b:c c:d d:d e:eeee")
        self.assertEqual(ever_lost(late, Right.words("a", "b")).number, 3)
        late = READ("a:b b:c c:d d:f e:eeee f:f")
        self.assertRaisesWith(TooMany, ("image", 64), ever_lost, late, Right.words("a", "b"))


class ShowsTests(Checks, unittest.TestCase):

    def test_losts(self):
        right = Right.words("a", "b", "aa", "ab", "e")
        for number in (1, 2, 3):
            for one in [*texts("abe", 2), "ee", "c", "x"]:
                for other in [*texts("abe", 2), "c"]:
                    self.assertIs(shows_lost(LATE, right, Lost(number, one, other)), is_lost(LATE, right, number, one, other))
        self.assertIs(shows_lost(LATE, right, Lost(2, "a", "b")), True)
        self.assertIs(shows_lost(LATE, right, Lost(2, "b", "a")), True)
        self.assertIs(shows_lost(LATE, right, Lost(1, "a", "b")), False)
        self.assertIs(shows_lost(LATE, right, Lost(12, "a", "b")), True)
        self.assertIs(shows_lost(misreading=LATE, right=right, paper=Lost(2, "aa", "ab")), True)

    def test_losts_of_long_texts(self):
        both, right = READ("a:cccc b:cccc c:cccc"), Right.over("ab")
        for number in (1, 2, 3):
            self.assertIs(shows_lost(both, right, Lost(number, "a" * 2000, "b" * 2000)), True)
            self.assertIs(shows_lost(both, right, Lost(number, "a" * 2001, "b" * 2001)), False)
        self.assertIs(shows_lost(both, right, Lost(4, "a", "b")), False)

    def test_losts_of_any_values(self):
        right = Right.over("ab")
        both = READ("a:c b:c")
        for value in any_values():
            self.assertIs(shows_lost(both, right, Lost(value, "a", "b")), like(value, 1))
            self.assertIs(shows_lost(both, right, Lost(1, value, "b")), like(value, "a"))
            self.assertIs(shows_lost(both, right, Lost(1, "ab", value)), False)
            self.assertIs(shows_lost(both, right, Lost(1, "ba", value)), like(value, "ab"))

    def test_losts_with_barred_letters(self):
        barred = READ("a:c b:c")
        self.assertIs(shows_lost(barred, Right.over("ab"), Lost(1, "a", "b")), True)
        self.assertIs(shows_lost(barred, Right.over("ab"), Lost(2, "a", "b")), False)
        self.assertIs(shows_lost(barred, Right.over("abd"), Lost(1, "ad", "bd")), False)

    def test_kepts_in_other_forms(self):
        chance = random.Random(721)
        results = {True: 0, False: 0}
        for misreading, right in cases(721, 900, "abc"):
            number = chance.randint(1, 3)
            try:
                found = lost(misreading, right, number)
            except TooMany:
                continue
            if not found or not found.dead:
                continue
            dead = list(found.dead)
            chance.shuffle(dead)
            self.assertIs(shows_lost(misreading, right, Kept(number, tuple(dead))), True)
            self.assertIs(shows_lost(misreading, right, Kept(number, tuple(dead + dead[:1]))), True)
            self.assertIs(shows_lost(misreading, right, Kept(number, dead)), False)
            for at in range(len(dead)):
                self.assertIs(shows_lost(misreading, right, Kept(number, tuple(dead[:at] + dead[at + 1:]))), False)
            # One more rest, with a word that no image has: nothing comes behind it.
            size = len(right.standings)
            self.assertIs(shows_lost(misreading, right, Kept(number, found.dead + ((0, "zz", 0, size - 1),))), True)
            more = (chance.randint(0, 1), chance.choice(["a", "b", "c", "ab"]), chance.randrange(size), chance.randrange(size))
            expected = self.is_closed(misreading, right, number, found.dead + (more,))
            self.assertIs(shows_lost(misreading, right, Kept(number, found.dead + (more,))), expected)
            results[expected] += 1
        self.assertGreater(min(results.values()), 5, results)

    def is_closed(self, misreading, right, number, rests):
        """Whether all rests behind some rests are among them, and none loses anything."""
        for side, word, p, q in rests:
            if word == "" and right.standings[p][1] and right.standings[q][1]:
                return False
            for letter, to in right.standings[q if side == 0 else p][0]:
                image = image_along([misreading], (0,) * number, letter)
                if image is None or not (word.startswith(image) or image.startswith(word)):
                    continue
                more = word[len(image):] or image[len(word):]
                ahead = side if len(word) > len(image) else 1 - side if len(word) < len(image) else 0
                if (ahead, more, *((p, to) if side == 0 else (to, q))) not in rests:
                    return False
        return True

    def test_kepts_with_rests_that_lose(self):
        once, right = READ("e:xc f:f x:x"), Right.over("efx")
        self.assertIs(shows_lost(once, right, Kept(1, ((0, "c", 0, 0),))), True)
        for more, expected in (((0, "", 0, 0), False), ((1, "", 0, 0), False), ((0, "z", 0, 0), True), ((1, "z", 0, 0), True),
                               ((0, "z" * 2500, 0, 0), True), ((0, "Z", 0, 0), False), ((0, "z ", 0, 0), False)):
            self.assertIs(shows_lost(once, right, Kept(1, ((0, "c", 0, 0), more))), expected, more)
        # An empty word and one end is no loss.
        both, right = READ("a:x b:x"), Right.words("a", "bc")
        kept = lost(both, right, 1)
        self.assertEqual(len(kept.dead), 1)
        self.assertIs(shows_lost(both, right, kept), True)
        self.assertIs(shows_lost(both, right, Kept(1, kept.dead + ((1, "", 1, 2),))), False)
        self.assertIs(shows_lost(both, right, Kept(1, kept.dead + ((0, "", 2, 1), (1, "x", 0, 1)))), False)
        self.assertIs(shows_lost(both, right, Kept(1, kept.dead + ((0, "", 2, 1),))), True)

    def test_rests_of_any_values(self):
        once, right = READ("e:xc f:f x:x"), Right.over("efx")
        good = (0, "c", 0, 0)
        for value in any_values():
            # With 2 e is barred, too, as c is: then it is a rest more than must be.
            self.assertIs(shows_lost(once, right, Kept(value, (good,))), like(value, 1) or like(value, 2))
            self.assertIs(shows_lost(once, right, Kept(1, value)), False)
            self.assertIs(shows_lost(once, right, Kept(1, (good, value))), False)
            self.assertIs(shows_lost(once, right, Kept(1, (value,))), False)
            for at in range(4):
                rest = good[:at] + (value,) + good[at + 1:]
                self.assertIs(shows_lost(once, right, Kept(1, (rest,))), like(rest, good))
                expected = [type(value) is int and value in (0, 1), type(value) is str and value.isalpha()
                            and value.islower() and "x" not in value and "f" not in value, like(value, 0), like(value, 0)][at]
                self.assertIs(shows_lost(once, right, Kept(1, (good, rest))), expected, rest)
        for wrong in ((0, "c", 0), (0, "c", 0, 0, 0), [0, "c", 0, 0], (2, "c", 0, 0), (-1, "c", 0, 0), (0, "c", 1, 0),
                      (0, "c", 0, -1), (False, "c", 0, 0), (0, "c", False, 0), (0, "c", 0, False), ("0", "c", 0, 0)):
            self.assertIs(shows_lost(once, right, Kept(1, (good, wrong))), False)

    def test_kepts_where_something_is_lost(self):
        many = 0
        for misreading, right in cases(722, 150, "abc"):
            for number in (1, 2):
                try:
                    found = lost(misreading, right, number)
                except TooMany:
                    continue
                if not found:
                    many += 1
                    dead = plain_dead(misreading, right, number, "abc")
                    self.assertIs(shows_lost(misreading, right, Kept(number, dead)), False)
                    ends = tuple(rest for rest in dead
                                 if rest[1] != "" or not all(right.standings[at][1] for at in rest[2:]))
                    self.assertIs(shows_lost(misreading, right, Kept(number, ends)), False)
                    self.assertIs(shows_lost(misreading, right, Kept(number, ())), False)
        self.assertGreater(many, 20)

    def test_kepts_of_other_numbers(self):
        right = Right.words("a", "b")
        self.assertLike(lost(LATE, right, 1), Kept(1, ()))
        for number, expected in ((1, True), (2, False), (3, False), (0, False), (13, False), (12, False), (True, False)):
            self.assertIs(shows_lost(LATE, right, Kept(number, ())), expected)

    def test_numbers_for_which_lost_raises(self):
        two, right = READ("a:aa b:b"), Right.over("b")
        for number in range(-1, 15):
            self.assertIs(shows_lost(two, right, Kept(number, ())), 1 <= number <= 6)
        both = READ("a:aa b:c c:c d:c")
        for number in range(-1, 15):
            self.assertIs(shows_lost(both, Right.words("b", "d"), Lost(number, "b", "d")), 1 <= number <= 6)
        long = READ("a:bbbb b:cccc c:dddd d:eeee")
        for number in range(1, 13):
            self.assertIs(shows_lost(long, Right.words("a"), Kept(number, ())), number != 4)

    def test_kept_alls(self):
        right = Right.words("a", "c")
        both = READ("a:c b:c d:b")
        keeps = ever_lost(both, right).keeps
        self.assertEqual([kept.number for kept in keeps], [1, 2, 3])
        self.assertIs(shows_lost(both, right, KeptAll(keeps)), True)
        for wrong in ((), keeps[:2], keeps[1:], keeps + keeps[2:], keeps[:1] + keeps[:1] + keeps[2:], keeps[::-1],
                      list(keeps), keeps + (Kept(4, ()),), keeps[:2] + (Lost(3, "a", "b"),), keeps[:2] + (None,),
                      keeps[:2] + (KeptAll(()),), keeps[:2] + (Kept(True, ()),), (Kept(True, ()),) + keeps[1:],
                      keeps[:2] + (keeps,), (keeps[1], keeps[0], keeps[2])):
            self.assertIs(shows_lost(both, right, KeptAll(wrong)), False, wrong)
        for value in any_values():
            self.assertIs(shows_lost(both, right, KeptAll(value)), False)
            self.assertIs(shows_lost(TWICE, right, KeptAll(value)), like(value, ()))
            self.assertIs(shows_lost(both, right, value), value == Kept(1, ()))
        # With a loss at the second number no Kept of it is right.
        self.assertIs(shows_lost(LATE, Right.words("a", "b"), KeptAll(tuple(Kept(k, ()) for k in range(1, 6)))), False)
        # With one that is one to one, the Kepts tell the same.
        keeps = tuple(lost(TWICE, Right.over("cefx"), number) for number in range(1, 5))
        self.assertIs(shows_lost(TWICE, Right.over("cefx"), KeptAll(keeps)), True)
        self.assertIs(shows_lost(TWICE, Right.over("cefx"), KeptAll(keeps[:3])), False)

    def test_misreadings_for_which_merging_raises(self):
        nine = READ("a:ab b:b") ** 8
        right = Right.over("ab")
        self.assertIs(shows_lost(nine, right, KeptAll(())), False)
        keeps = tuple(lost(nine, right, number) for number in (1, 2))
        self.assertIs(shows_lost(nine, right, KeptAll(keeps)), False)
        # lost itself raises nothing here, and what it returns is right.
        self.assertEqual([shows_lost(nine, right, kept) for kept in keeps], [True, True])
        both = nine | READ("c:b")
        self.assertIs(shows_lost(both, Right.words("b", "c"), Lost(1, "b", "c")), True)
        self.assertIs(shows_lost(READ("a:ab b:b") ** 7, right, KeptAll(())), True)

    def test_what_the_facts_claim(self):
        """Nothing is lost exactly if no rest has an empty word and two ends; a Kept holds for all short texts."""
        for misreading, right in cases(723, 120, "abc"):
            for number in (1, 2):
                try:
                    found = lost(misreading, right, number)
                except TooMany:
                    continue
                images = {}
                for text in right.texts(4):
                    image = image_along([misreading], (0,) * number, text)
                    if image is not None:
                        images.setdefault(image, []).append(text)
                if found:
                    self.assertTrue(all(len(group) == 1 for group in images.values()))
                for group in images.values():
                    for one, other in itertools.combinations(group, 2):
                        self.assertIs(shows_lost(misreading, right, Lost(number, other, one)), True)


if __name__ == "__main__":
    unittest.main()
