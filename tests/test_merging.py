import random
import unittest

from blindrepair.errors import BadTable, TooMany
from blindrepair.merging import Merged, OneToOne, merging, shows_merging
from blindrepair.misreadings import Misreading
from blindrepair.sound import Alike
from tests.helpers import Checks, any_values, is_text, texts, values_but
from tests.meeting_ways import Plain
from tests.test_misreadings import images_of, some_misreadings


def once():
    return Misreading({"e": "xc", "x": "xf", "c": "c", "f": "f"})


def loose():
    return Misreading({"e": "xc", "x": "x", "c": "c"})


class MergingTests(Checks, unittest.TestCase):

    def test_all_short_texts(self):
        kinds = {True: 0, False: 0}
        for misreading in some_misreadings(31, 250):
            found = merging(misreading)
            kinds[bool(found)] += 1
            images = {}
            for text in texts("".join(misreading), 5):
                images.setdefault(misreading(text), []).append(text)
            several = [row for row in images.values() if len(row) > 1]
            if found:
                self.assertIs(type(found), OneToOne)
                self.assertEqual(several, [])
            else:
                self.assertIs(type(found), Merged)
                self.assertNotEqual(found.one, found.other)
                self.assertEqual(misreading(found.one), misreading(found.other))
            self.assertIs(shows_merging(misreading, found), True)
            self.assertEqual(merging(Misreading(images_of(misreading))), found)
        self.assertTrue(min(kinds.values()) > 40)

    def test_leads_and_dead_rests_by_a_second_way(self):
        many = 0
        for misreading in some_misreadings(32, 150, longest=3):
            found = merging(misreading)
            plain = Plain(images_of(misreading), images_of(misreading), 9)
            if found:
                self.assertLike(found.leads, plain.leads())
                self.assertLike(found.dead, plain.dead())
                many += len(found.dead)
            elif plain.leads() is not None:
                self.fail(str(misreading))
        self.assertTrue(many > 20)

    def test_papers_told_by_hand(self):
        self.assertEqual(merging(Misreading({})), OneToOne((), ()))
        self.assertEqual(merging(Misreading({"a": "b"})), OneToOne((("one", "b", "one", "a"),), ()))
        # ab and b: behind ab and a, no word begins with b but b itself, which leads back; nothing ends with an a.
        self.assertEqual(merging(Misreading({"a": "ab", "b": "a"})),
                         OneToOne((("one", "a", "one", "b"), ("one", "ab", "one", "a")),
                                  (("one", "b"), ("two", "b"))))
        # Both can lead: a is ahead of c first, then c of a.
        self.assertEqual(merging(Misreading({"a": "xy", "c": "x", "d": "z"})),
                         OneToOne((("one", "x", "one", "c"), ("one", "xy", "one", "a"), ("one", "z", "one", "d")),
                                  (("one", "y"), ("two", "y"))))

    def test_the_living_rests_are_the_images(self):
        """If all meetings of a list with itself are alike, each of them is of a letter with itself."""
        for misreading in some_misreadings(36, 200):
            found = merging(misreading)
            if found:
                expected = sorted(("one", misreading[letter], "one", letter) for letter in misreading)
                self.assertLike(found.leads, tuple(expected))

    def test_images_of_eight_and_nine_letters(self):
        grow = Misreading({"a": "ab"}, "b")
        eight, nine = grow ** 7, grow ** 8
        self.assertEqual((len(eight["a"]), len(nine["a"])), (8, 9))
        self.assertTrue(merging(eight))
        self.assertFalse(merging(eight | Misreading({"c": "abbb", "d": "bbbb"})))
        self.assertRaisesWith(TooMany, ("image", 8), merging, nine)
        for value in [*any_values(), merging(eight)]:
            self.assertRaisesWith(TooMany, ("image", 8), shows_merging, nine, value)

    def test_wrong_values(self):
        for value in values_but(lambda value: isinstance(value, Misreading)):
            self.assertRaisesWith(BadTable, ("misreading",), merging, value)
            self.assertRaisesWith(BadTable, ("misreading",), shows_merging, value, Merged("a", "b"))


class ShowingTests(Checks, unittest.TestCase):

    def test_values_of_other_kinds(self):
        for value in any_values():
            self.assertIs(shows_merging(loose(), value), False)
            self.assertIs(shows_merging(misreading=once(), value=value), False)
        found = merging(once())
        self.assertIs(shows_merging(once(), Alike(found.leads, found.dead)), False)
        self.assertIs(shows_merging(Misreading({}), OneToOne((), ())), True)

    def test_merged(self):
        for one, other, right in (("e", "xc", True), ("xc", "e", True), ("ee", "exc", True), ("eeee", "xcexce", True),
                                  ("e", "e", False), ("e", "x", False), ("ea", "xca", False), ("", "", False),
                                  ("e" * 1000, "xc" * 1000, True), ("e" * 2000, "e" * 1000 + "xc" * 500, False),
                                  ("e" * 1001, "xc" * 1001, False), ("e" * 2000, "e" * 1999 + "xc", False),
                                  ("e" * 1999, "e" * 1998 + "xc", True)):
            self.assertIs(shows_merging(loose(), Merged(one, other)), right)
        for value in any_values():
            self.assertIs(shows_merging(loose(), Merged("xc", value)), False)
            self.assertIs(shows_merging(loose(), Merged(value, "e")), False)
            self.assertIs(shows_merging(loose(), Merged(value, value)), False)

    def test_images_are_compared_at_any_length(self):
        wide = Misreading({"e": "xxcc", "x": "xx", "c": "cc"})
        self.assertIs(shows_merging(wide, Merged("e" * 1000, "e" * 999 + "xc")), True)
        self.assertIs(shows_merging(wide, Merged("e" * 1000, "e" * 999 + "cx")), False)

    def papers(self):
        """Misreadings that are one to one, with their papers; some have dead rests and leads of both rows."""
        for misreading in [*some_misreadings(33, 60), once()]:
            found = merging(misreading)
            if found:
                yield misreading, found

    def test_another_order(self):
        chance = random.Random(34)
        for misreading, found in self.papers():
            leads, dead = list(found.leads), list(found.dead)
            chance.shuffle(leads)
            chance.shuffle(dead)
            self.assertIs(shows_merging(misreading, OneToOne(tuple(leads), tuple(dead))), True)

    def test_rests_that_lack_or_stand_twice(self):
        for misreading, found in self.papers():
            for at, lead in enumerate(found.leads):
                fewer = found.leads[:at] + found.leads[at + 1:]
                # Without a rest the step that leads to it comes to nothing, unless no rest is needed at all.
                self.assertIs(shows_merging(misreading, OneToOne(fewer, found.dead)), False)
                self.assertIs(shows_merging(misreading, OneToOne(found.leads + (lead,), found.dead)), False)
                self.assertIs(shows_merging(misreading, OneToOne(found.leads, found.dead + (lead[:2],))), False)
                self.assertIs(shows_merging(misreading, OneToOne(fewer, found.dead + (lead[:2],))), False)
            for at, rest in enumerate(found.dead):
                fewer = found.dead[:at] + found.dead[at + 1:]
                self.assertIs(shows_merging(misreading, OneToOne(found.leads, fewer)), False)
                self.assertIs(shows_merging(misreading, OneToOne(found.leads, found.dead + (rest,))), False)

    def test_more_rests(self):
        found = merging(once())
        for more, dead, right in (((("two", "c", "two", "c"),), (), True), ((("two", "c", "one", "c"),), (), False),
                                  ((), (("one", "zz"),), True), ((), (("two", "z"), ("one", "z")), True),
                                  ((), (("one", "c"),), False), ((), (("two", "c"),), False),
                                  ((("one", "zz", "one", ""),), (), True), ((("one", "zz", "two", "qq"),), (), True),
                                  ((("two", "xx", "one", ""),), (), True),
                                  ((("two", "x", "one", ""),), (), False),
                                  ((("two", "xx", "one", ""),), (("two", "x"),), False),
                                  ((("two", "cz", "one", ""),), (("two", "z"),), True),
                                  ((("two", "cz", "one", ""), ("two", "z", "one", "c")), (), True),
                                  ((("two", "cz", "one", ""), ("two", "z", "two", "c")), (), False),
                                  ((("two", "cz", "two", "c"), ("two", "z", "one", "")), (), True),
                                  ((("two", "cz", "two", "cf"), ("two", "z", "two", "f")), (), True),
                                  ((("two", "cz", "two", "f"), ("two", "z", "one", "")), (), False)):
            paper = OneToOne(found.leads + more, found.dead + dead)
            self.assertIs(shows_merging(once(), paper), right, (more, dead))
            self.assertIs(shows_merging(once(), OneToOne(more + found.leads, dead)), right)

    def test_papers_spoilt_in_every_attribute(self):
        for misreading, found in self.papers():
            if not found.leads:
                continue
            wrong = [lead for at in range(4) for lead in self.spoilt(found.leads[0], at)]
            wrong += [list(found.leads[0]), found.leads[0][:3], found.leads[0] + ("",), (), "oxox", None]
            for lead in wrong:
                self.assertIs(shows_merging(misreading, OneToOne((lead,) + found.leads[1:], found.dead)), False, lead)
            for value in [*any_values(), list(found.leads), {lead[:2]: lead[2:] for lead in found.leads}]:
                self.assertIs(shows_merging(misreading, OneToOne(value, found.dead)), False)
            for value in values_but(lambda value: value == ()) + [list(found.dead)]:
                self.assertIs(shows_merging(misreading, OneToOne(found.leads, value)), False)

    def spoilt(self, lead, at):
        """A quadruple with every kind of other value at an index."""
        others = [*any_values(), "one", "two", "start", "end", "c", lead[at] + "a", [lead[at]], "a" * 2001]
        return [lead[:at] + (value,) + lead[at + 1:] for value in others if value != lead[at]]

    def test_dead_rests_spoilt(self):
        made = Misreading({"a": "ab", "b": "a"})
        found = merging(made)
        self.assertEqual(len(found.dead), 2)
        for at in range(2):
            for wrong in (["one", "b"], ("one", "b", ""), ("one",), ("one", ""), ("one", "B"), ("One", "b"), ("one", 1),
                          (0, "b"), (["one"], "b"), ("one", ["b"]), "ob", None, ("start", ""), ("end", ""),
                          ("one", "b" * 2001), ("one", None), (None, "b")):
                dead = list(found.dead)
                dead[at] = wrong
                self.assertIs(shows_merging(made, OneToOne(found.leads, tuple(dead))), False)
                self.assertIs(shows_merging(made, OneToOne(found.leads, found.dead + (wrong,))), False, wrong)

    def test_more_rests_that_are_none(self):
        """No step leads to these and none goes on from them, but they are not what a rest or a lead is."""
        found = merging(once())
        sides = [*any_values(), "One", "start", "end", "two "]
        for side in sides:
            self.assertIs(shows_merging(once(), OneToOne(found.leads, ((side, "zz"),))), False)
            self.assertIs(shows_merging(once(), OneToOne(found.leads + ((side, "zz", "one", "a"),), ())), False)
            self.assertIs(shows_merging(once(), OneToOne(found.leads + (("one", "zz", side, "a"),), ())), False)
        for text in [*values_but(is_text), "z" * 2001]:
            self.assertIs(shows_merging(once(), OneToOne(found.leads, (("one", text),))), False)
            self.assertIs(shows_merging(once(), OneToOne(found.leads + (("one", text, "one", "a"),), ())), False)
            self.assertIs(shows_merging(once(), OneToOne(found.leads + (("one", "zz", "one", text),), ())), False)
        for lead, right in ((("one", ""), True), (("two", "a"), True), (("two", ""), False), (("one", "z" * 2000), True)):
            self.assertIs(shows_merging(once(), OneToOne(found.leads + (("one", "zz") + lead,), ())), right)
        for side in ("one", "two"):
            self.assertIs(shows_merging(Misreading({}), OneToOne((), ((side, "zz"),))), True)
            self.assertIs(shows_merging(Misreading({}), OneToOne((), ((side, ""),))), False)
            self.assertIs(shows_merging(Misreading({}), OneToOne(((side, "", "one", ""),), ())), False)

    def test_no_paper_is_right_for_a_misreading_that_merges(self):
        """Whatever small paper is made up for one that is not one to one, it is not right."""
        made = loose()
        pairs = Plain(images_of(made), images_of(made), 6)
        rests = sorted(pairs.reached)
        chance = random.Random(35)
        for _ in range(3000):
            leads, dead = [], []
            for rest in rests:
                kind = chance.random()
                if kind < 0.6:
                    known = sorted(each for each in pairs.reached[rest] if each) or [("one", "")]
                    leads.append(rest + chance.choice(known))
                elif kind < 0.9:
                    dead.append(rest)
            self.assertIs(shows_merging(made, OneToOne(tuple(leads), tuple(dead))), False)
