import itertools
import random
import unittest

from blindrepair.errors import BadList, BadRight, BadWord, NoOrigin, Several, TooMany
from blindrepair.look_origins import shows_origin
from blindrepair.misreadings import Misreading
from blindrepair.origins import Origin, come_of, origins, repaired, right_ones
from blindrepair.rights import Right
from blindrepair.sound import sound
from blindrepair.verdicts import decide
from tests.helpers import Checks, any_values, is_text, texts, values_but, wrong_lists
from tests.test_rights import some_rights
from tests.test_sound import some_lists, some_pairs

READ = Misreading.read
TWICE = READ("c:c e:xc f:f x:xf")
RING, OTHER = READ("a:b b:c c:a"), READ("a:a b:b c:dd d:d")


def plain_step(misreading, text):
    """The text to which a step leads, None if there is none."""
    if any(letter not in misreading for letter in text):
        return None
    image = "".join(misreading[letter] for letter in text)
    return None if image == text else image


def plain_origins(misreadings, text, known):
    """The texts of some known ones that lead to a text, with their least rows: found from all texts at once."""
    targets = {start: [plain_step(misreading, start) for misreading in misreadings] for start in known}
    found = {text: ()}
    again = True
    while again:
        level = {}
        for start in known:
            told = [(first,) + found[to] for first, to in enumerate(targets[start]) if to in found]
            if start not in found and told:
                level[start] = min(told)
        found.update(level)
        again = bool(level)
    return sorted(((row, start) for start, row in found.items()), key=lambda each: (len(each[0]), each[0],
                                                                                   len(each[1]), each[1]))


def just_500():
    """Lists, texts that can come of just 500 texts, and one of these."""
    yield [READ("f:f x:xf")], "x" + "f" * 499, "x"
    yield [READ("f:f g:g x:xf y:y"), READ("f:f g:g x:x y:yg")], "x" + "f" * 19 + "y" + "g" * 24, "xy"
    yield [READ("a:c b:c c:c d:d e:c f:c g:d h:d i:d")], "cccd", "acbi"
    yield [READ("z:z"), READ("a:c b:c c:c d:d e:c f:c g:d h:d i:d")], "dccc", "dccc"


def just_501():
    """Lists and texts that can come of just 501 texts."""
    yield [READ("f:f x:xf")], "x" + "f" * 500
    yield [READ("f:f g:g x:xf y:y"), READ("f:f g:g x:x y:yg")], "xff" + "y" + "g" * 166
    yield [READ("a:c b:c e:c f:c g:d h:d i:d j:d k:c")], "cccd"
    yield [READ("a:c b:c c:c d:d e:c f:c g:d h:d i:d j:e")], "cccd"


class OriginsTests(Checks, unittest.TestCase):

    def told(self, misreadings, text):
        return [(each.row, each.text) for each in origins(misreadings, text)]

    def test_against_all_texts_and_the_steps_between_them(self):
        chance = random.Random(501)
        kinds = {}
        for misreadings in [*some_lists(501, 60), *some_pairs(502, 30)]:
            letters = sorted(set("".join(letter + misreading[letter] for misreading in misreadings for letter in misreading)))
            most = 5 if len(letters) < 4 else 3
            known = texts(letters[:6], most)
            for text in [*chance.sample(known, min(len(known), 10)), ""]:
                plain = plain_origins(misreadings, text, [each for each in known if len(each) <= len(text)])
                if set(letters) <= set(letters[:6]):
                    self.assertLike(self.told(misreadings, text), plain)
                    self.check_others(misreadings, text, plain)
                    kinds[bool(sound(misreadings)), len(plain)] = 1
        self.assertTrue(all(len([many for holds, many in kinds if holds == each]) > 2 for each in (True, False)), kinds)
        self.assertGreater(max(many for holds, many in kinds), 20)

    def check_others(self, misreadings, text, plain):
        for row, start in plain:
            self.assertLike(come_of(misreadings, text, start), row)
            self.assertIs(shows_origin(misreadings, text, row, start), True)
        starts = [start for row, start in plain]
        for other in ("a", "ab", "b" * len(text), text + "a", text[1:], "z"):
            if other not in starts:
                self.assertIsNone(come_of(misreadings, text, origin=other))

    def test_they_are_origins_and_the_first_one_is_the_text(self):
        for misreadings in some_lists(503, 30):
            for text in ("", "a", "abc", "bb", "z"):
                found = list(origins(misreadings=misreadings, text=text))
                self.assertEqual(found[0], Origin((), text))
                self.assertEqual({type(each) for each in found}, {Origin})
                self.assertEqual(len({each.text for each in found}), len(found))
                self.assertEqual(list(origins(tuple(misreadings), text)), found)

    def test_told_by_hand(self):
        self.assertEqual(self.told([TWICE], "xfc"), [((), "xfc"), ((0,), "xc"), ((0, 0), "e")])
        self.assertEqual(self.told([RING, OTHER], "dd"), [((), "dd"), ((1,), "c"), ((0, 1), "b"), ((0, 0, 1), "a")])
        self.assertEqual(self.told([RING], "a"), [((), "a"), ((0,), "c"), ((0, 0), "b")])
        self.assertEqual(self.told([READ("a:b b:a")], "ab"), [((), "ab"), ((0,), "ba")])
        # Texts of one row by length, then ascending, also if they are of unlike texts of the row behind it.
        self.assertEqual(self.told([READ("a:c b:cc d:a e:b")], "cc"),
                         [((), "cc"), ((0,), "b"), ((0,), "aa"), ((0, 0), "e"), ((0, 0), "dd")])
        self.assertEqual(self.told([READ("a:c b:c d:b e:a")], "c"),
                         [((), "c"), ((0,), "a"), ((0,), "b"), ((0, 0), "d"), ((0, 0), "e")])
        # The least row counts, not the first misreading that is tried.
        self.assertEqual(self.told([READ("a:b"), READ("b:c"), READ("a:c")], "c"), [((), "c"), ((1,), "b"), ((2,), "a")])
        self.assertEqual(self.told([READ("a:b d:b"), READ("b:c"), READ("a:d")], "c"),
                         [((), "c"), ((1,), "b"), ((0, 1), "a"), ((0, 1), "d")])

    def test_no_step_where_nothing_is_changed(self):
        self.assertEqual(self.told([Misreading.same("abc")], "abc"), [((), "abc")])
        self.assertEqual(self.told([Misreading.same("abc"), READ("a:b b:b")], "b"), [((), "b"), ((1,), "a")])
        self.assertEqual(self.told([TWICE], ""), [((), "")])
        self.assertEqual(self.told([Misreading({})], "q"), [((), "q")])
        self.assertEqual(self.told([Misreading({})], "z" * 2000), [((), "z" * 2000)])

    def test_long_texts(self):
        text = "".join("xfc"[at % 3] for at in range(1998))
        found = self.told([READ("c:c e:xc f:f x:xf"), RING], text)
        self.assertEqual([start for row, start in found], [text, "xc" * 666, "e" * 666])
        self.assertEqual(come_of([TWICE], text, "e" * 666), (0, 0))
        self.assertEqual(len(self.told([READ("f:f x:xf")], "f" * 1600 + "x" + "f" * 399)), 400)

    def test_images_of_more_than_four_letters(self):
        long = READ("a:abc b:b c:cc") ** 2
        for text in ("abcbcccc", "abcb", "abcbccccabcbcccc"):
            plain = plain_origins([long], text, texts("abc", 5) + [text])
            self.assertEqual(self.told([long], text), plain)

    def test_just_500_texts_and_501(self):
        for misreadings, text, word in just_500():
            found = list(origins(misreadings, text))
            self.assertEqual(len(found), 500)
            last = found[-1]
            self.assertEqual(come_of(misreadings, text, last.text), last.row)
            self.assertIsNone(come_of(misreadings, text, "z"))
            self.assertEqual(right_ones(misreadings, Right.over("abcdefghixy"), text), tuple(found))
            self.assertEqual(repaired(misreadings, Right.words(word), text), word)
            self.assertRaisesWith(NoOrigin, (text,), repaired, misreadings, Right.words("z"), text)
        for misreadings, text in just_501():
            for right in (Right.words(), Right.over("abcdefghijkxy")):
                self.assertRaisesWith(TooMany, ("texts", 500), right_ones, misreadings, right, text)
                self.assertRaisesWith(TooMany, ("texts", 500), repaired, misreadings, right, text)
            self.assertRaisesWith(TooMany, ("texts", 500), lambda: next(origins(misreadings, text)))
            self.assertRaisesWith(TooMany, ("texts", 500), lambda: list(origins(misreadings, text)))
            self.assertRaisesWith(TooMany, ("texts", 500), come_of, misreadings, text, text)
            self.assertRaisesWith(TooMany, ("texts", 500), come_of, misreadings, text, "z")

    def test_very_many_texts(self):
        for text in ("c" * 2000, "c" * 9, "c" * 40):
            self.assertRaisesWith(TooMany, ("texts", 500), come_of, [READ("a:c b:c")], text, text)
        self.assertRaisesWith(TooMany, ("texts", 500), come_of, [READ("a:c b:cc c:cc")], "c" * 2000, "a")
        self.assertIsNone(come_of([READ("a:c b:c")], "c" * 1999 + "d", "a"))
        self.assertEqual(len(self.told([READ("a:c b:c")], "c" * 8)), 257)


    def test_wrong_arguments_in_their_order(self):
        for value, at in wrong_lists():
            self.assertRaisesWith(BadList, (at,), lambda: next(origins(value, 5)))
            self.assertRaisesWith(BadList, (at,), come_of, value, 5, 5)
            self.assertRaisesWith(BadList, (at,), right_ones, value, 5, 5)
            self.assertRaisesWith(BadList, (at,), repaired, value, 5, 5)
        for value in values_but(lambda value: isinstance(value, Right)):
            self.assertRaisesWith(BadRight, ("right",), right_ones, [TWICE], value, 5)
            self.assertRaisesWith(BadRight, ("right",), repaired, [TWICE], value, 5)
        for value in [*values_but(is_text), "a" * 2001]:
            self.assertRaisesWith(BadWord, (value,), lambda: next(origins([TWICE], value)))
            self.assertRaisesWith(BadWord, (value,), come_of, [TWICE], value, 5)
            self.assertRaisesWith(BadWord, (value,), come_of, [TWICE], "xfc", value)
            self.assertRaisesWith(BadWord, (value,), come_of, [READ("a:c b:c")], "c" * 20, value)
            self.assertRaisesWith(BadWord, (value,), right_ones, [TWICE], Right.words(), value)
            self.assertRaisesWith(BadWord, (value,), repaired, [TWICE], Right.words(), value)

    def test_later_changes_to_the_list(self):
        misreadings = [RING, OTHER]
        going = origins(misreadings, "dd")
        found = [next(going)]
        misreadings[1] = READ("q:c")
        found.append(next(going))
        misreadings.clear()
        self.assertEqual(found + list(going), list(origins([RING, OTHER], "dd")))


class RightTests(Checks, unittest.TestCase):

    def test_right_ones_and_repaired(self):
        kinds = set()
        rights = some_rights(504, 100, letters="abc")
        for misreadings, right in zip(some_lists(504, 100), rights):
            for text in texts("abc", 3):
                found = tuple(each for each in origins(misreadings, text) if each.text in right)
                self.assertEqual(right_ones(misreadings, right, text), found)
                self.assertIs(type(right_ones(misreadings=tuple(misreadings), right=right, text=text)), tuple)
                if not found:
                    self.assertRaisesWith(NoOrigin, (text,), repaired, misreadings, right, text)
                elif len(found) > 1:
                    self.assertRaisesWith(Several, (found[0].text, found[1].text), repaired, misreadings, right, text)
                else:
                    self.assertEqual(repaired(misreadings, right, text=text), found[0].text)
                kinds.add(min(len(found), 3))
        self.assertEqual(kinds, {0, 1, 2, 3})

    def test_told_by_hand(self):
        self.assertEqual(right_ones([TWICE], Right.words("e", "xfc"), "xfc"), (Origin((), "xfc"), Origin((0, 0), "e")))
        self.assertEqual(right_ones([TWICE], Right.words("x"), "xfc"), ())
        self.assertRaisesWith(Several, ("xc", "e"), repaired, [TWICE], Right.words("e", "xc"), "xfc")
        self.assertRaisesWith(Several, ("xfc", "xc"), repaired, [TWICE], Right.over("exfc"), "xfc")
        self.assertRaisesWith(NoOrigin, ("",), repaired, [TWICE], Right.words("a"), "")
        self.assertEqual(repaired([TWICE], Right.words(""), ""), "")

    def test_sound_and_calm_is_never_several(self):
        many = 0
        rights = some_rights(505, 400, letters="abcd")
        lists = [*some_lists(505, 250), *some_pairs(506, 150)]
        for misreadings, right in zip(lists, rights):
            if not sound(misreadings):
                continue
            try:
                calm = decide(misreadings, right)
            except TooMany:
                continue
            if calm:
                many += 1
                for text in texts("abcd", 3):
                    self.assertLess(len(right_ones(misreadings, right, text)), 2)
        self.assertGreater(many, 25)


class ShowsOriginTests(Checks, unittest.TestCase):

    def plain_shows(self, misreadings, text, row, origin):
        for index in row:
            origin = None if origin is None else plain_step(misreadings[index], origin)
        return origin == text

    def test_all_short_texts_and_rows(self):
        results = set()
        for misreadings in some_lists(511, 40):
            for size in range(4 if len(misreadings) < 3 else 3):
                for row in itertools.product(range(len(misreadings)), repeat=size):
                    for origin in texts("abc", 2):
                        reached = origin
                        for index in row:
                            reached = reached and (plain_step(misreadings[index], reached) or "")
                        for text in {"", "a", "cb", origin, reached[:2000]}:
                            expected = self.plain_shows(misreadings, text, row, origin)
                            self.assertIs(shows_origin(misreadings, text, row, origin), expected)
                            results.add((size, expected))
        self.assertEqual(len(results), 8)

    def test_rows_that_are_not_the_least_and_go_round_a_ring(self):
        for row, origin, right in (((0, 1), "b", True), ((0, 0, 0, 0, 1), "b", True), ((0,) * 2998 + (1,), "b", True),
                                   ((0,) * 2998 + (1,), "a", False), ((1,), "c", True), ((), "dd", True),
                                   ((), "c", False), ((1, 1), "c", False), ((0, 0, 1, 1), "a", False)):
            self.assertIs(shows_origin([RING, OTHER], "dd", row, origin), right)
        self.assertIs(shows_origin(misreadings=(RING, OTHER), text="dd", row=(0, 1), origin="b"), True)

    def test_a_misreading_that_changes_nothing_on_the_way(self):
        made = [READ("a:b b:b"), Misreading.same("ab"), READ("b:c")]
        for row, right in (((0, 2), True), ((1, 0, 2), False), ((0, 1, 2), False), ((0, 0, 2), False), ((0, 2, 1), False)):
            self.assertIs(shows_origin(made, "c", row, "a"), right)
        self.assertIs(shows_origin([TWICE], "c", (0,), "c"), False)
        self.assertIs(shows_origin([TWICE], "", (0,), ""), False)
        self.assertIs(shows_origin([TWICE], "", (), ""), True)

    def test_barred_on_the_way(self):
        self.assertIs(shows_origin([READ("a:b"), READ("a:c b:c")], "c", (0, 1), "a"), True)
        self.assertIs(shows_origin([READ("a:b"), READ("a:c")], "c", (0, 1), "a"), False)
        self.assertIs(shows_origin([READ("a:b")], "b", (0,), "z"), False)

    def test_rows_and_origins_of_every_wrong_kind(self):
        for value in any_values():
            self.assertIs(shows_origin([RING, OTHER], "b", value, "a"), type(value) is tuple and value == (0,))
            self.assertIs(shows_origin([RING, OTHER], "dd", (0, 1), value), type(value) is str and value == "b")
            self.assertIs(shows_origin([RING, OTHER], "dd", (0, value), "b"), type(value) is int and value == 1)
            self.assertIs(shows_origin([RING, OTHER], "dd", value, value), False)
        for row in ([0, 1], (0, -1), (False, 1), (0, True), (0, 2), (0, "1"), (0, None), "01", (0, 1, [])):
            self.assertIs(shows_origin([RING, OTHER], "dd", row, "b"), False)
        self.assertIs(shows_origin([RING], "b", (0, 0, 0, 1), "a"), False)

    def test_texts_of_more_than_2000_letters(self):
        double = READ("a:aa")
        self.assertIs(shows_origin([double], "a" * 2000, (0,), "a" * 1000), True)
        self.assertIs(shows_origin([double], "a" * 2000, (0, 0, 0, 0), "a" * 125), True)
        self.assertIs(shows_origin([double], "a" * 2000, (0,), "a" * 2000), False)
        self.assertIs(shows_origin([double], "a" * 2000, (0,) * 2999, "a"), False)
        self.assertIs(shows_origin([READ("a:aaaa")], "a" * 2000, (0, 0), "a" * 126), False)
        for text in ("a" * 2001, "a" * 3000):
            self.assertIs(shows_origin([double], "a" * 2000, (), text), False)

    def test_wrong_arguments_in_their_order(self):
        for value, at in wrong_lists():
            self.assertRaisesWith(BadList, (at,), shows_origin, value, 5, 5, 5)
        for value in [*values_but(is_text), "a" * 2001]:
            self.assertRaisesWith(BadWord, (value,), shows_origin, [RING], value, 5, 5)


if __name__ == "__main__":
    unittest.main()
