import random
import unittest

from blindrepair.alike import Parted, Same, alike, shows_alike
from blindrepair.errors import BadRight, BadTable
from blindrepair.misreadings import Misreading
from blindrepair.rights import Right
from tests.helpers import Checks, any_values, like, texts, values_but
from tests.plain_effects import behind, is_right

READ = Misreading.read
LONG, SHORT = READ("a:xyx b:y"), READ("a:x b:yxy")


def image_of(misreading, text):
    return "".join(misreading[letter] for letter in text)


def common(one, other):
    return "".join(letter for letter in one if letter in other)


def margin(one, other, text):
    """What each image is longer, None if none of them begins with the other one."""
    first, second = image_of(one, text), image_of(other, text)
    if first.startswith(second):
        return first[len(second):], ""
    return ("", second[len(first):]) if second.startswith(first) else None


def alike_cases(seed, many):
    """Two misreadings and a right set; most of them do the same to all right texts.

    All images are cut from one word that comes again and again: at each standing both are at a place of their own, so
    there is the same margin behind all texts that lead there. It is even at the ends, or else at most of them.
    """
    chance = random.Random(seed)
    for _ in range(many):
        word = "".join(chance.choice("xy") for _ in range(chance.randint(1, 3)))
        size = chance.randint(2, 5)
        places = [0] + [chance.randrange(len(word)) for _ in range(size - 1)]
        ahead = [0] + [chance.choice([0, 0, 1, -1, 2, -2, 3]) for _ in range(size - 1)]
        one, other, steps = {}, {}, [{} for _ in range(size)]
        for letter in "abcdef":
            at, to = chance.randrange(size), chance.randrange(size)
            sizes = [(first, second) for first in range(1, 5) for second in range(1, 5)
                     if first - second == ahead[to] - ahead[at] and (places[at] + first - places[to]) % len(word) == 0]
            if sizes:
                first, second = chance.choice(sizes)
                one[letter] = "".join(word[(places[at] + k) % len(word)] for k in range(first))
                other[letter] = "".join(word[(places[at] - ahead[at] + k) % len(word)] for k in range(second))
                steps[at][letter] = to
        for letter in list(one):
            if chance.random() < 0.1:
                chance.choice([one, other]).pop(letter)
        yield Misreading(one), Misreading(other), Right(*[
            (step, chance.random() < (0.5 if ahead[at] == 0 else 0.05)) for at, step in enumerate(steps)])


def spoilt_cases(seed, many):
    """Cases of which one image has another last letter, or one more."""
    chance = random.Random(seed)
    for one, other, right in alike_cases(seed, many):
        images = {letter: one[letter] for letter in one}
        if images:
            letter = chance.choice(list(images))
            images[letter] = images[letter][:chance.choice([-1, 3])] + chance.choice("xy")
        yield Misreading(images), other, right


def random_cases(seed, many):
    chance = random.Random(seed)
    for _ in range(many):
        made = []
        for _ in range(2):
            made.append(Misreading({letter: "".join(chance.choice("xy") for _ in range(chance.choice([1, 1, 2, 3])))
                                    for letter in "abc" if chance.random() < 0.9}))
        size = chance.randint(1, 4)
        yield *made, Right(*[({letter: chance.randrange(size) for letter in "abc" if chance.random() < 0.5},
                              chance.random() < 0.4) for _ in range(size)])


class AlikeTests(Checks, unittest.TestCase):

    def cases(self):
        return [*alike_cases(801, 400), *random_cases(802, 200), *spoilt_cases(803, 500)]

    def test_against_all_texts_of_common_letters(self):
        kinds, sizes, margins = {}, set(), set()
        for one, other, right in self.cases():
            found = alike(one, other, right)
            told = texts(common(one, other), (9, 9, 6, 5, 4, 3, 3)[len(common(one, other))])
            parting = [text for text in told if is_right(right, text) and image_of(one, text) != image_of(other, text)]
            kinds[type(found)] = kinds.get(type(found), 0) + 1
            self.assertEqual(alike(one=one, other=other, right=right), found)
            if found:
                self.assertEqual(parting, [])
                self.check_same(one, other, right, found, told)
                margins |= {triple[1:] for triple in found.margins}
            else:
                self.assertIs(type(found), Parted)
                self.assertTrue(is_right(right, found.text) and set(found.text) <= set(common(one, other)))
                self.assertNotEqual(image_of(one, found.text), image_of(other, found.text))
                if parting:
                    self.assertEqual(found.text, parting[0])
                sizes.add(len(found.text))
            self.assertIs(shows_alike(one, other, right, found), True)
            self.assertIs(shows_alike(other, one, right, found), not found or all(triple[1] == triple[2]
                                                                                  for triple in found.margins))
        self.assertTrue(kinds[Same] > 150 and kinds[Parted] > 100, kinds)
        self.assertTrue({1, 2, 3, 4} <= sizes and len(margins) > 8, (sizes, margins))

    def check_same(self, one, other, right, found, told):
        known, dead = {}, set()
        live = [at for at in range(len(right.standings)) if any(
            right.standings[to][1] for to in [behind(right, at, more) for more in told] if to is not None)]
        for text in told:
            at = behind(right, 0, text)
            if at in live:
                known.setdefault(at, set()).add(margin(one, other, text))
            elif at is not None:
                dead.add(at)
        self.assertEqual({at: len(each) for at, each in known.items()}, {at: 1 for at in known})
        self.assertLike(found.margins, tuple((at, *known[at].pop()) for at in sorted(known)))
        self.assertLike(found.dead, tuple(sorted(dead)))

    def test_told_by_hand(self):
        self.assertEqual(alike(LONG, SHORT, Right.words("ab", "abab", "")),
                         Same(((0, "", ""), (1, "yx", ""), (2, "", ""), (3, "yx", ""), (4, "", "")), ()))
        self.assertEqual(alike(LONG, SHORT, Right.words("ab", "ba", "bb", "aa")), Parted("aa"))
        self.assertEqual(alike(LONG, SHORT, Right.words("ab", "ba", "bb")), Parted("bb"))
        self.assertEqual(alike(SHORT, LONG, Right.words("ab", "ba")).margins,
                         ((0, "", ""), (1, "", "yx"), (2, "xy", ""), (3, "", "")))
        # b leads from one of two standings that are dead for common letters; c is none of them.
        right = Right(({"a": 1, "b": 2}, True), ({"c": 0, "b": 2}, False), ({"c": 0}, False))
        self.assertEqual(alike(READ("a:x b:y c:x"), READ("a:x b:x"), right), Same(((0, "", ""),), (1, 2)))
        right = Right(({"a": 1}, True), ({"c": 2}, False), ({"a": 0}, False))
        self.assertEqual(alike(READ("a:x c:x"), READ("a:y"), right), Same(((0, "", ""),), (1,)))

    def test_images_that_part_count_only_where_a_right_text_follows(self):
        one, other = READ("a:x b:z c:c"), READ("a:y b:z c:c")
        self.assertEqual(alike(one, other, Right.words("b", "ad")), Same(((0, "", ""), (2, "", "")), (1,)))
        self.assertEqual(alike(one, other, Right.words("b", "ab")), Parted("ab"))
        self.assertEqual(alike(one, other, Right.words("b", "cab", "ccccca")), Parted("cab"))

    def test_a_later_text_can_be_the_shortest(self):
        # Behind a and b the margins at the same standing are unlike, and only behind b all comes out even.
        one, other = READ("a:x b:xy c:z d:zz"), READ("a:xy b:x c:yz d:zzz")
        right = Right(({"a": 1, "b": 1}, False), ({"c": 2, "d": 1}, False), ({}, True))
        self.assertEqual(alike(one, other, right), Parted("ac"))
        # Three margins at the standing 1: x and xx for a and b, xxx for c, even behind d with the first one.
        one, other = READ("a:xx b:xxx c:xxxx d:y"), READ("a:x b:x c:x d:xy")
        right = Right(({"a": 1, "b": 1, "c": 1}, False), ({"d": 2}, False), ({}, True))
        self.assertEqual(alike(one, other, right), Parted("bd"))
        right = Right(({"a": 1, "c": 1}, False), ({"d": 2}, False), ({}, True))
        self.assertEqual(alike(one, other, right), Parted("cd"))
        right = Right(({"a": 1}, False), ({"d": 2}, False), ({}, True))
        self.assertEqual(alike(one, other, right), Same(((0, "", ""), (1, "x", ""), (2, "", "")), ()))

    def test_no_common_letters_and_no_right_texts(self):
        none = Misreading({})
        self.assertEqual(alike(none, LONG, Right.words("a")), Same((), (0,)))
        self.assertEqual(alike(none, LONG, Right.words("", "a")), Same(((0, "", ""),), ()))
        self.assertEqual(alike(READ("a:b"), READ("b:a"), Right.over("ab")), Same(((0, "", ""),), ()))
        self.assertEqual(alike(LONG, SHORT, Right.words()), Same((), (0,)))
        self.assertEqual(alike(LONG, LONG, Right.words()), Same((), (0,)))
        self.assertEqual(alike(LONG, LONG, Right.over("ab")), Same(((0, "", ""),), ()))
        self.assertEqual(alike(LONG, READ("c:c e:xc f:f x:xf"), Right.words("a")), Same((), (0,)))

    def test_images_of_up_to_64_letters(self):
        grow = READ("a:aaaa") ** 3
        almost = READ("a:aaaa b:bb") ** 3
        self.assertEqual(len(grow["a"]), 64)
        self.assertEqual(alike(grow, almost, Right.over("ab")), Same(((0, "", ""),), ()))
        other = READ("a:aaa") ** 3
        self.assertEqual(alike(grow, other, Right.words("aaaaaaa")), Parted("aaaaaaa"))
        self.assertEqual(alike(grow, other, Right.over("ab")), Parted("a"))
        # Behind six letters a the one is 222 letters longer, and there is no right text.
        one, two = grow | READ("b:a c:c"), other | READ("b:a c:c")
        found = alike(one, two, Right.words("aaaaaad", "c"))
        self.assertEqual(found, Same(((0, "", ""), (2, "", "")), (1, 3, 4, 5, 6, 7)))
        right = Right(({"a": 1}, False), ({"b": 2}, False), ({}, True))
        self.assertEqual(alike(READ("a:aaaa b:b") ** 3, READ("a:aaa b:b") ** 3, right), Parted("ab"))
        self.assertEqual(alike(READ("a:cc b:d c:cc d:d") ** 6, READ("a:c b:cd c:cc d:d") ** 6, right),
                         Same(((0, "", ""), (1, "c" * 32, ""), (2, "", "")), ()))

    def test_texts_whose_images_have_more_than_2000_letters(self):
        one, other = READ("a:xxxx b:y"), READ("a:xxxx b:z")
        right = Right.over("ab")
        self.assertEqual(alike(one, other, right), Parted("b"))
        for text, shown in (("a" * 1999 + "b", True), ("a" * 2000, False), ("a" * 2000 + "b", False), ("b" + "a" * 1999, True)):
            self.assertIs(shows_alike(one, other, right, Parted(text)), shown)
        self.assertEqual(alike(one, other, Right.over("a")), Same(((0, "", ""),), ()))

    def test_wrong_arguments_in_their_order(self):
        for value in values_but(lambda value: isinstance(value, Misreading)):
            self.assertRaisesWith(BadTable, ("one",), alike, value, 5, 5)
            self.assertRaisesWith(BadTable, ("other",), alike, LONG, value, 5)
            self.assertRaisesWith(BadTable, ("one",), shows_alike, value, 5, 5, 5)
            self.assertRaisesWith(BadTable, ("other",), shows_alike, LONG, value, 5, 5)
        for value in values_but(lambda value: isinstance(value, Right)):
            self.assertRaisesWith(BadRight, ("right",), alike, LONG, SHORT, value)
            self.assertRaisesWith(BadRight, ("right",), shows_alike, LONG, SHORT, value, 5)


class ShowsAlikeTests(Checks, unittest.TestCase):

    def same_cases(self):
        for one, other, right in alike_cases(811, 120):
            found = alike(one, other, right)
            if found:
                yield one, other, right, found

    def test_other_values(self):
        right = Right.words("ab")
        found = alike(LONG, SHORT, right)
        for value in [*any_values(), found.margins, (found,), [found]]:
            self.assertIs(shows_alike(LONG, SHORT, right, value), False)
            self.assertIs(shows_alike(LONG, SHORT, right, Parted(value)), False)
            self.assertIs(shows_alike(LONG, SHORT, right, Same(value, found.dead)), like(value, found.margins))
            self.assertIs(shows_alike(LONG, SHORT, right, Same(found.margins, value)), like(value, ()))
        self.assertIs(shows_alike(one=LONG, other=SHORT, right=right, paper=found), True)

    def test_every_item_in_kind_order_and_value(self):
        many = 0
        for one, other, right, found in self.same_cases():
            for at, triple in enumerate(found.margins):
                standing, more, less = triple
                for wrong in [list(triple), triple + ("",), triple[:2], (standing, less + "x", more), (standing, more, None),
                              (standing, None, less), (standing + 1, more, less), (standing - 1, more, less),
                              (str(standing), more, less), (standing, more + "x", less), (standing, more, less + "y"),
                              (standing, "x" + more, less), (standing, [more], less), (standing, more, (less,)), None, "",
                              (standing, "x" + more, "x" + less), (-1, more, less)]:
                    self.check(one, other, right, Same(found.margins[:at] + (wrong,) + found.margins[at + 1:], found.dead))
                    self.check(one, other, right, Same(found.margins + (wrong,), found.dead))
                    many += 1
                if standing < 2:
                    wrong = (bool(standing), more, less)
                    self.check(one, other, right, Same(found.margins[:at] + (wrong,) + found.margins[at + 1:], found.dead))
                self.check(one, other, right, Same(found.margins[:at] + found.margins[at + 1:], found.dead))
                self.check(one, other, right, Same(found.margins + (triple,), found.dead))
                self.check(one, other, right, Same(found.margins[:at] + found.margins[at + 1:],
                                                   tuple(sorted(found.dead + (standing,)))))
            for at, standing in enumerate(found.dead):
                for wrong in (str(standing), standing + 1, standing - 1, (standing,), None):
                    self.check(one, other, right, Same(found.margins, found.dead[:at] + (wrong,) + found.dead[at + 1:]))
                self.check(one, other, right, Same(found.margins, found.dead[:at] + found.dead[at + 1:]))
                self.check(one, other, right, Same(found.margins, found.dead + (standing,)))
                self.check(one, other, right, Same(tuple(sorted(found.margins + ((standing, "", ""),))),
                                                   found.dead[:at] + found.dead[at + 1:]))
                if standing < 2:
                    self.check(one, other, right, Same(found.margins, found.dead[:at] + (bool(standing),) + found.dead[at + 1:]))
            for margins in (list(found.margins), {triple: 0 for triple in found.margins}):
                self.check(one, other, right, Same(margins, found.dead))
            self.check(one, other, right, Same(found.margins, list(found.dead)))
            if len(found.margins) > 1:
                self.check(one, other, right, Same(found.margins[::-1], found.dead))
            if len(found.dead) > 1:
                self.check(one, other, right, Same(found.margins, found.dead[::-1]))
        self.assertGreater(many, 1000)

    def check(self, one, other, right, paper):
        self.assertIs(shows_alike(one, other, right, paper), False, vars(paper))

    def test_margins_that_hold_at_all_steps_but_not_at_the_beginning_or_an_end(self):
        one, other = READ("a:xy b:yx"), READ("a:yx b:yx")
        right = Right.over("b")
        self.assertIs(shows_alike(one, other, right, Same(((0, "", ""),), ())), True)
        for more, less in (("yx", ""), ("", "yx"), ("y", "")):
            self.check(one, other, right, Same(((0, more, less),), ()))
        # Each of the steps holds, but there is more at the beginning, or at the end.
        one, other = READ("a:xx b:x"), READ("a:x b:xx")
        right = Right.words("ab")
        self.assertIs(shows_alike(one, other, right, Same(((0, "", ""), (1, "x", ""), (2, "", "")), ())), True)
        for margins in (((0, "x", ""), (1, "xx", ""), (2, "x", "")), ((0, "", "x"), (1, "", ""), (2, "", "x"))):
            self.check(one, other, right, Same(margins, ()))
        self.check(one, other, Right.words("a"), Same(((0, "", ""), (1, "x", "")), ()))
        self.check(one, other, Right.words("a"), Same(((0, "", "x"), (1, "", "")), ()))

    def test_no_same_is_right_where_they_part(self):
        chance = random.Random(812)
        many = 0
        for one, other, right in random_cases(812, 200):
            if not alike(one, other, right):
                many += 1
                told = texts(common(one, other), 3)
                for _ in range(10):
                    margins, dead = [], []
                    for at in range(len(right)):
                        ways = [margin(one, other, text) for text in told if behind(right, 0, text) == at]
                        ways = [way for way in ways if way is not None]
                        if ways and chance.random() < 0.9:
                            margins.append((at, *chance.choice(ways)))
                        elif ways:
                            dead.append(at)
                    self.check(one, other, right, Same(tuple(margins), tuple(dead)))
        self.assertGreater(many, 60)

    def test_all_short_texts_as_parted(self):
        results = set()
        for one, other, right in [*alike_cases(813, 60), *random_cases(814, 60)]:
            for text in texts("abc", 3):
                expected = (is_right(right, text) and set(text) <= set(common(one, other))
                            and image_of(one, text) != image_of(other, text))
                self.assertIs(shows_alike(one, other, right, Parted(text)), expected)
                results.add((len(text), expected))
        self.assertEqual(len(results), 7)

    def test_parted_by_hand(self):
        right = Right.words("aa", "bb")
        for text, shown in (("aa", True), ("bb", True), ("ab", False), ("a", False), ("", False), ("aab", False)):
            self.assertIs(shows_alike(LONG, SHORT, right, Parted(text)), shown)
        for text in (["aa"], ("aa",), "a" * 2001, "aA", b"aa", None):
            self.assertIs(shows_alike(LONG, SHORT, right, Parted(text)), False)


if __name__ == "__main__":
    unittest.main()
