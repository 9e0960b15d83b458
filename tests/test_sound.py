import random
import unittest

from blindrepair.errors import BadList, TooMany
from blindrepair.look_sound import shows_sound
from blindrepair.merging import Merged, OneToOne, merging
from blindrepair.misreadings import Misreading
from blindrepair.sound import Alike, Sound, Still, Unsound, sound
from tests.helpers import Checks, any_values, texts, values_but
from tests.meeting_ways import Plain
from tests.test_misreadings import images_of, some_misreadings

READ = Misreading.read


def once():
    return READ("c:c e:xc f:f x:xf")


def some_lists(seed, many, longest=3):
    """Lists of one to four small misreadings, the same ones for each seed."""
    chance = random.Random(seed)
    made = list(some_misreadings(seed, many * 4, longest))
    for at in range(many):
        yield made[4 * at:4 * at + chance.randint(1, 4)]


def some_pairs(seed, many):
    """Lists of two misreadings that read other letters, so that many of them are sound."""
    chance = random.Random(seed)
    for _ in range(many):
        made = []
        for letters in ("abx", "cdx"):
            images = {letter: "".join(chance.choice("xyabcd") for _ in range(chance.randint(1, 3))) for letter in letters}
            made.append(Misreading({letter: letter if chance.random() < 0.3 else images[letter] for letter in letters}))
        yield made


def steps_into(misreadings, letters, most):
    """For each text into which steps lead from short texts: these texts."""
    found = {}
    for misreading in misreadings:
        for text in texts(letters, most):
            image = misreading.step(text)
            if image is not None:
                found.setdefault(image, set()).add(text)
    return found


def rest_pairs(leads):
    return tuple(lead[:2] for lead in leads)


class SoundTests(Checks, unittest.TestCase):

    def test_all_short_texts(self):
        kinds = {}
        for misreadings in [*some_lists(41, 150), *some_pairs(42, 60)]:
            found = sound(misreadings)
            letters = sorted({letter for misreading in misreadings for letter in misreading})
            several = any(len(row) > 1 for row in steps_into(misreadings, letters, 4 if len(letters) < 4 else 3).values())
            self.assertIn(type(found), (Sound, Unsound))
            self.assertIs(shows_sound(misreadings, found), True)
            self.assertEqual(sound(tuple(misreadings)), found)
            if found:
                self.assertFalse(several)
            else:
                first, second = misreadings[found.first], misreadings[found.second]
                self.assertNotEqual(found.one, found.other)
                self.assertIsNotNone(first.step(found.one))
                self.assertEqual(first.step(found.one), second.step(found.other))
            for paper in found.papers if found else ():
                kinds[type(paper)] = kinds.get(type(paper), 0) + 1
            kinds[type(found)] = kinds.get(type(found), 0) + 1
        self.assertTrue(min(kinds[kind] for kind in (Sound, Unsound, Alike, Still)) > 20, kinds)

    def test_the_papers_by_a_second_way(self):
        sides = set()
        for misreadings in [*some_lists(43, 100), *some_pairs(44, 150)]:
            found = sound(misreadings)
            if not found:
                continue
            pairs = [(i, k) for i in range(len(misreadings)) for k in range(i, len(misreadings))]
            self.assertIs(type(found.papers), tuple)
            self.assertEqual(len(found.papers), len(pairs))
            for (i, k), paper in zip(pairs, found.papers):
                plain = Plain(images_of(misreadings[i]), images_of(misreadings[k]), 9)
                self.assertLike(paper.dead, plain.dead())
                if isinstance(paper, Alike):
                    self.assertLike(paper.leads, plain.leads())
                    self.assertEqual([one for one, other in plain.ends if one != other], [])
                else:
                    self.assertIs(type(paper), Still)
                    self.assertTrue(any(one != other for one, other in plain.ends))
                    self.assertLike(paper.living, tuple(sorted(plain.living)))
                    still = [side for side, at in (("one", i), ("two", k))
                             if not plain.used[side] & set(misreadings[at].changed)]
                    self.assertEqual(paper.side, still[0])
                    sides.add(paper.side)
        self.assertEqual(sides, {"one", "two"})

    def test_lists_of_one(self):
        for misreading in some_misreadings(45, 100):
            found = merging(misreading)
            if found:
                self.assertEqual(sound([misreading]), Sound((Alike(found.leads, found.dead),)))
            else:
                # Two unlike texts with one image: at least one of them is no image of itself, so both can be made so.
                self.assertIs(type(sound([misreading])), Unsound)

    def test_told_by_hand(self):
        self.assertEqual(sound([Misreading({})]), Sound((Alike((), ()),)))
        self.assertEqual(sound([Misreading({})] * 4), Sound((Alike((), ()),) * 10))
        pair = sound(misreadings=[once(), Misreading.same("cefx")])
        self.assertEqual(pair.papers[1], Still("two", (("one", "c"), ("one", "f"), ("one", "xc"), ("one", "xf")), ()))
        other = sound([Misreading.same("cefx"), once()])
        # Row two is not ahead first: behind x it takes xc or xf, and then it is ahead by c or f.
        self.assertEqual(other.papers[1],
                         Still("one", (("one", "c"), ("one", "f"), ("one", "x"), ("two", "c"), ("two", "f")),
                               (("one", "e"),)))
        turned = sound([READ("a:b"), READ("c:b")])
        self.assertEqual(turned, Unsound("a", 0, "c", 1))
        self.assertEqual(sound([READ("a:b"), READ("b:b")]).papers[1].side, "two")

    def test_leads_of_the_row_that_is_not_ahead(self):
        one, other = READ("a:xyzv b:w c:r"), READ("a:x b:yz c:vwr")
        paper = sound([one, other]).papers[1]
        self.assertEqual(paper, Alike((("one", "v", "two", "b"), ("one", "xyzv", "one", "a"), ("one", "yzv", "one", ""),
                                       ("two", "r", "two", "c"), ("two", "wr", "two", "bc")),
                                      (("one", "r"), ("one", "w"))))
        self.assertIs(shows_sound([one, other], sound([one, other])), True)

    def test_meetings_are_joined(self):
        """Of these lists no single meeting is unlike and has a changed letter on both sides."""
        for one, other in ((READ("a:b k:k"), READ("b:b q:k")), (READ("b:b q:k"), READ("a:b k:k")),
                           (READ("e:xc o:o p:p y:y"), READ("c:c e:e o:yp x:x")), (READ("a:m b:b"), READ("d:b m:m"))):
            found = sound([one, other])
            self.assertIs(type(found), Unsound)
            self.assertIs(shows_sound([one, other], found), True)
            plain = Plain(images_of(one), images_of(other), 9)
            for left, right in plain.ends:
                self.assertFalse(left != right and set(left) & set(one.changed) and set(right) & set(other.changed))
        self.assertEqual(sound([READ("a:b k:k"), READ("b:b q:k")]), Unsound("ak", 0, "bq", 1))

    def test_joined_labels_that_are_the_same(self):
        """The meeting of ab with a and that of c with bc give abc on both sides: both texts have to be unlike."""
        one, other = READ("a:a b:b c:zw"), READ("a:ab b:z c:w")
        found = sound([one, other])
        self.assertIs(type(found), Unsound)
        self.assertNotEqual(found.one, found.other)
        self.assertEqual(one(found.one), other(found.other))
        self.assertIs(shows_sound([one, other], found), True)

    def test_images_of_eight_and_nine_letters(self):
        grow = READ("a:ab b:b")
        eight, nine = grow ** 7, grow ** 8
        self.assertTrue(sound([eight]))
        self.assertTrue(shows_sound([eight], sound([eight])))
        for misreadings in ([nine], [grow, eight, nine], (nine, grow)):
            self.assertRaisesWith(TooMany, ("image", 8), sound, misreadings)
            for value in [*any_values(), Sound((5,)), Unsound("a", 0, "b", 9)]:
                self.assertRaisesWith(TooMany, ("image", 8), shows_sound, misreadings, value)

    def test_wrong_lists(self):
        for value in [*values_but(lambda value: type(value) in (list, tuple) and 1 <= len(value) <= 4), [once()] * 5, []]:
            self.assertRaisesWith(BadList, (None,), sound, value)
            self.assertRaisesWith(BadList, (None,), shows_sound, value, Sound(()))
        for value in values_but(lambda value: isinstance(value, Misreading)):
            for at in range(4):
                wrong = [READ("a:ab b:b") ** 8] * at + [value] + [5] * (3 - at)
                self.assertRaisesWith(BadList, (at,), sound, wrong)
                self.assertRaisesWith(BadList, (at,), shows_sound, tuple(wrong), Sound(()))


class ShowingTests(Checks, unittest.TestCase):

    def lists(self):
        for misreadings in [*some_lists(47, 40), *some_pairs(48, 60), [once(), Misreading.same("cefx")]]:
            found = sound(misreadings)
            if found:
                yield misreadings, found.papers

    def replaced(self, papers, at, paper):
        return Sound(papers[:at] + (paper,) + papers[at + 1:])

    def test_values_of_other_kinds(self):
        for value in any_values():
            self.assertIs(shows_sound([once()], value), False)
            self.assertIs(shows_sound(misreadings=[once()], value=Sound(value)), False)
            self.assertIs(shows_sound([once()], Sound((value,))), False)
        found = merging(once())
        right = Alike(found.leads, found.dead)
        self.assertIs(shows_sound([once()], Sound((right,))), True)
        for wrong in ([right], (right, right), (), right, ([right],), (found,), {0: right}):
            self.assertIs(shows_sound([once()], Sound(wrong)), False)
        self.assertIs(shows_sound([once(), once()], Sound((right,) * 3)), True)
        self.assertIs(shows_sound([once(), once()], Sound((right,) * 2)), False)
        self.assertIs(shows_sound([once(), once()], Sound((right,) * 4)), False)

    def test_papers_of_the_other_pair(self):
        same = Misreading.same("cefx")
        papers = sound([once(), same]).papers
        self.assertIs(shows_sound([once(), same], Sound(papers[::-1])), False)
        self.assertIs(shows_sound([same, once()], Sound(papers)), False)

    def test_a_still_in_the_place_of_an_alike(self):
        kinds = set()
        for misreadings, papers in self.lists():
            pairs = [(i, k) for i in range(len(misreadings)) for k in range(i, len(misreadings))]
            for at, (paper, (i, k)) in enumerate(zip(papers, pairs)):
                living = rest_pairs(paper.leads) if isinstance(paper, Alike) else paper.living
                plain = Plain(images_of(misreadings[i]), images_of(misreadings[k]), 9)
                for side, index in (("one", i), ("two", k)):
                    right = not plain.used[side] & set(misreadings[index].changed)
                    shown = shows_sound(misreadings, self.replaced(papers, at, Still(side, living, paper.dead)))
                    self.assertIs(shown, right)
                    kinds.add((type(paper), right))
        self.assertEqual(len(kinds), 4)

    def test_an_alike_in_the_place_of_a_still(self):
        for misreadings, papers in self.lists():
            for at, paper in enumerate(papers):
                if isinstance(paper, Still):
                    for lead in (("one", ""), ("one", "a"), ("two", "a")):
                        leads = tuple(rest + lead for rest in paper.living)
                        self.assertIs(shows_sound(misreadings, self.replaced(papers, at, Alike(leads, paper.dead))), False)

    def test_another_order_and_more_rests(self):
        for misreadings, papers in self.lists():
            for at, paper in enumerate(papers):
                far = (("one", "zzzz"), ("two", "zz"))
                if isinstance(paper, Alike):
                    others = [Alike(paper.leads[::-1], paper.dead[::-1]), Alike(paper.leads, paper.dead + far),
                              Alike(paper.leads + (("two", "zz", "two", "q"),), paper.dead)]
                    wrong = [Alike(paper.leads + (("two", "zz", "two", "q"),), paper.dead + far)]
                else:
                    others = [Still(paper.side, paper.living[::-1], paper.dead[::-1]),
                              Still(paper.side, paper.living + far, paper.dead),
                              Still(paper.side, far + paper.living, paper.dead),
                              Still(paper.side, paper.living, paper.dead + far)]
                    wrong = [Still(paper.side, paper.living + far, paper.dead + far),
                             Still(paper.side, paper.living + far + far, paper.dead)]
                for other in others:
                    self.assertIs(shows_sound(misreadings, self.replaced(papers, at, other)), True)
                for other in wrong:
                    self.assertIs(shows_sound(misreadings, self.replaced(papers, at, other)), False)

    def test_dead_rests_can_be_told_as_living_where_no_letter_is_changed(self):
        # Nothing can be changed by the second misreading, so each rest may stand among the living ones.
        first, second = READ("a:xy b:x"), READ("x:x y:y z:z")
        papers = sound([first, second]).papers
        self.assertEqual(papers[1], Still("two", (("one", "x"), ("one", "xy"), ("one", "y")), ()))
        first = READ("a:xq b:x")
        papers = sound([first, second]).papers
        self.assertEqual(papers[1], Still("two", (("one", "x"),), (("one", "q"), ("one", "xq"))))
        for living, dead, right in (((("one", "x"), ("one", "q"), ("one", "xq")), (), True),
                                    ((("one", "x"), ("one", "xq")), (("one", "q"),), True),
                                    ((("one", "x"), ("one", "q")), (("one", "xq"),), False),
                                    ((("one", "xq"),), (("one", "x"), ("one", "q")), False)):
            self.assertIs(shows_sound([first, second], self.replaced(papers, 1, Still("two", living, dead))), right)
            self.assertIs(shows_sound([first, second], self.replaced(papers, 1, Still("one", living, dead))), False)

    def test_rests_that_lack_stand_twice_or_in_both(self):
        for misreadings, papers in self.lists():
            for at, paper in enumerate(papers):
                if isinstance(paper, Alike):
                    continue
                for index, rest in enumerate(paper.living):
                    fewer = paper.living[:index] + paper.living[index + 1:]
                    for living, dead in ((fewer, paper.dead), (paper.living + (rest,), paper.dead),
                                         (paper.living, paper.dead + (rest,)), (fewer, paper.dead + (rest,))):
                        wrong = Still(paper.side, living, dead)
                        self.assertIs(shows_sound(misreadings, self.replaced(papers, at, wrong)), False)
                for index, rest in enumerate(paper.dead):
                    fewer = paper.dead[:index] + paper.dead[index + 1:]
                    for dead in (fewer, paper.dead + (rest,)):
                        wrong = Still(paper.side, paper.living, dead)
                        self.assertIs(shows_sound(misreadings, self.replaced(papers, at, wrong)), False)

    def test_stills_spoilt_in_every_attribute(self):
        same = Misreading.same("cefx")
        papers = sound([once(), same]).papers
        still = papers[1]
        for value in [*any_values(), "one", "Two", "two ", ("two",), "start", "end", 2]:
            self.assertIs(shows_sound([once(), same], self.replaced(papers, 1, Still(value, still.living, ()))), False)
        for value in [*any_values(), list(still.living), {rest: 0 for rest in still.living}]:
            self.assertIs(shows_sound([once(), same], self.replaced(papers, 1, Still("two", value, ()))), False)
        for value in values_but(lambda value: value == ()):
            self.assertIs(shows_sound([once(), same], self.replaced(papers, 1, Still("two", still.living, value))), False)
        for at in range(4):
            for wrong in (*any_values(), list(still.living[at]), still.living[at] + ("",), still.living[at][:1],
                          ("one", ""), ("one", ["c"]), (["one"], "c"), ("One", "c"), ("one", "c" * 2001), ("start", "")):
                living = still.living[:at] + (wrong,) + still.living[at + 1:]
                self.assertIs(shows_sound([once(), same], self.replaced(papers, 1, Still("two", living, ()))), False)
                more = still.living + (wrong,)
                if wrong != ("a", "b"):
                    self.assertIs(shows_sound([once(), same], self.replaced(papers, 1, Still("two", more, ()))), False)

    def test_alikes_spoilt_in_every_attribute(self):
        made = READ("a:ab b:a")
        paper = sound([made]).papers[0]
        self.assertEqual((len(paper.leads), len(paper.dead)), (2, 2))
        for value in any_values():
            self.assertIs(shows_sound([made], Sound((Alike(value, paper.dead),))), False)
            self.assertIs(shows_sound([made], Sound((Alike(paper.leads, value),))), False)
            for at in range(4):
                if value != paper.leads[0][at]:
                    lead = paper.leads[0][:at] + (value,) + paper.leads[0][at + 1:]
                    self.assertIs(shows_sound([made], Sound((Alike((lead,) + paper.leads[1:], paper.dead),))), False)

    def test_unsound(self):
        one, other = READ("e:xc o:o p:p y:y"), READ("c:c e:e o:yp x:x")
        for paper, right in ((Unsound("eyp", 0, "xco", 1), True), (Unsound("xco", 1, "eyp", 0), True),
                             (Unsound("e", 0, "xc", 1), False), (Unsound("yp", 0, "o", 1), False),
                             (Unsound("eyp", 0, "eyp", 0), False), (Unsound("eyp", 1, "xco", 0), False),
                             (Unsound("eyp", 0, "xco", 2), False), (Unsound("eyp", -2, "xco", 1), False),
                             (Unsound("eyp", False, "xco", 1), False), (Unsound("eyp", 0, "xco", True), False),
                             (Unsound("eypo", 0, "xcoo", 1), False), (Unsound("z", 0, "xco", 1), False),
                             (Unsound("eypeyp", 0, "xcoxco", 1), True), (Unsound("", 0, "", 1), False)):
            self.assertIs(shows_sound([one, other], paper), right, vars(paper))
        for value in any_values():
            for at in range(4):
                fields = ["eyp", 0, "xco", 1]
                if fields[at] is not value and not (value == fields[at] and type(value) is int):
                    fields[at] = value
                    self.assertIs(shows_sound([one, other], Unsound(*fields)), False)

    def test_unsound_with_one_index_or_equal_texts(self):
        loose = READ("c:c e:xc x:x")
        self.assertIs(shows_sound([loose], Unsound("e", 0, "xc", 0)), False)
        self.assertIs(shows_sound([loose], Unsound("ee", 0, "exc", 0)), True)
        self.assertIs(shows_sound([loose, loose], Unsound("ee", 0, "exc", 1)), True)
        self.assertIs(shows_sound([READ("a:b"), READ("a:b")], Unsound("a", 0, "a", 1)), False)
        self.assertTrue(sound([READ("a:b"), READ("a:b")]))

    def test_unsound_with_images_of_more_than_2000_letters(self):
        wide = READ("c:cc e:xxcc x:xx")
        self.assertIs(shows_sound([wide], Unsound("e" * 1000, 0, "e" * 999 + "xc", 0)), True)
        self.assertIs(shows_sound([wide], Unsound("e" * 1000, 0, "e" * 999 + "cx", 0)), False)
        self.assertIs(shows_sound([wide], Unsound("e" * 2001, 0, "e" * 2000 + "xc", 0)), False)

    def test_other_papers_are_no_answers(self):
        self.assertIs(shows_sound([READ("c:c e:xc x:x")], Merged("ee", "exc")), False)
        found = merging(once())
        self.assertIs(shows_sound([once()], OneToOne(found.leads, found.dead)), False)
        self.assertIs(shows_sound([once()], Alike(found.leads, found.dead)), False)

    def test_no_made_up_paper_makes_an_unsound_list_sound(self):
        chance = random.Random(49)
        for misreadings in ([READ("a:b"), READ("c:b")], [READ("c:c e:xc x:x")], [READ("a:x b:xx")]):
            self.assertIs(type(sound(misreadings)), Unsound)
            pairs = [(i, k) for i in range(len(misreadings)) for k in range(i, len(misreadings))]
            for _ in range(600):
                papers = tuple(self.made_up(chance, Plain(images_of(misreadings[i]), images_of(misreadings[k]), 6))
                               for i, k in pairs)
                self.assertIs(shows_sound(misreadings, Sound(papers)), False)

    def made_up(self, chance, plain):
        rests = sorted(plain.reached)
        living = tuple(rest for rest in rests if chance.random() < 0.7)
        dead = tuple(rest for rest in rests if rest not in living and chance.random() < 0.9)
        if chance.random() < 0.4:
            return Still(chance.choice(["one", "two"]), living, dead)
        leads = [sorted(lead for lead in plain.reached[rest] if lead) or [("one", "")] for rest in living]
        return Alike(tuple(rest + chance.choice(known) for rest, known in zip(living, leads)), dead)
