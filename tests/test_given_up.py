import unittest

from blindrepair.errors import BadList, BadRight, TooMany
from blindrepair.given_up import GivenUp, given_up
from blindrepair.look_verdicts import shows_verdict
from blindrepair.misreadings import Misreading
from blindrepair.rights import Right
from blindrepair.verdicts import Clash, decide
from tests.helpers import Checks, values_but, wrong_lists
from tests.plain_effects import just_300, late_clashes, some_cases, turns_of_ten

READ = Misreading.read
TWICE = READ("c:c e:xc f:f x:xf")


def plain_given_up(misreadings, right):
    """The kept letters and the clashes, by decide and Rights that are built as intersections."""
    kept, clashes = "", {}
    for letter in sorted(set(right.letters)):
        verdict = decide(misreadings, right & Right.over(kept + letter))
        if bool(verdict):
            kept += letter
        else:
            clashes[letter] = verdict
    return kept, tuple(sorted(clashes.items(), key=lambda pair: pair[0]))


class GivenUpTests(Checks, unittest.TestCase):

    def test_against_decide(self):
        results = set()
        for misreadings, right in some_cases(731, 400):
            try:
                found = given_up(misreadings=misreadings, right=right)
            except TooMany:
                results.add("many")
                continue
            kept, clashes = plain_given_up(misreadings, right)
            self.assertLike(found.kept, kept)
            self.assertLike(found.clashes, clashes)
            self.assertEqual(found, GivenUp(kept, clashes))
            results.add((len(kept), len(clashes)))
        self.assertTrue({(0, 0), (0, 1), (1, 1), (2, 1), (1, 2), (2, 0), (3, 1), (4, 0), (1, 3)} <= results, results)

    def test_the_fact(self):
        """The right texts of the kept letters are calm, and with any other letter besides there is a clash."""
        many = 0
        for misreadings, right in some_cases(732, 200):
            try:
                found = given_up(misreadings, right)
            except TooMany:
                continue
            self.assertIs(bool(decide(misreadings, right & Right.over(found.kept))), True)
            for letter, clash in found.clashes:
                more = right & Right.over(found.kept + letter)
                self.assertIs(bool(decide(misreadings, more)), False)
                self.assertIs(type(clash), Clash)
                self.assertIs(shows_verdict(misreadings, right, clash), True)
                self.assertIs(shows_verdict(misreadings, more, clash), True)
                many += 1
        self.assertGreater(many, 50)

    def test_told_by_hand(self):
        found = given_up([TWICE], Right.words("e", "xc", "cc"))
        self.assertLike((found.kept, found.clashes), ("ce", (("x", Clash("e", (0,))),)))
        # b is given up for a, c and d are kept, and e is given up for c and d.
        turn = READ("a:b b:a c:d d:cc e:e")
        found = given_up((turn,), Right.words("b", "a", "cc", "d", "ec"))
        self.assertEqual((found.kept, [letter for letter, clash in found.clashes]), ("ace", ["b", "d"]))
        self.assertEqual(found.clashes[0][1], Clash("a", (0,)))

    def test_right_sets_without_letters_or_texts(self):
        for right in (Right.words(), Right.words("")):
            self.assertLike(given_up([TWICE], right).kept, "")
            self.assertLike(given_up([TWICE], right).clashes, ())
        self.assertLike(given_up([Misreading({})] * 4, Right.over("ab")), GivenUp("ab", ()))

    def test_letters_of_right_texts_alone(self):
        # Letters that only stand in images are no letters of right texts, and none is kept for them.
        found = given_up([READ("a:xy b:b")], Right.words("a", "b"))
        self.assertLike(found, GivenUp("ab", ()))

    def test_more_than_300_effects(self):
        misreading, right = just_300()
        self.assertEqual(given_up([misreading], right & Right.over("f")).kept, "f")
        self.assertEqual(given_up(turns_of_ten(), Right.words("a")), GivenUp("a", ()))
        for misreadings, right, text, row, number in late_clashes():
            with self.assertRaises(TooMany) as caught:
                plain_given_up(misreadings, right)
            self.assertEqual((caught.exception.what, caught.exception.most), ("effects", 300))
            self.assertRaisesWith(TooMany, ("effects", 300), given_up, misreadings, right)
            # Without letters nothing is decided.
            self.assertLike(given_up(misreadings, Right.words("")), GivenUp("", ()))

    def test_wrong_arguments_in_their_order(self):
        for value, at in wrong_lists():
            self.assertRaisesWith(BadList, (at,), given_up, value, 5)
        for value in values_but(lambda value: isinstance(value, Right)):
            self.assertRaisesWith(BadRight, ("right",), given_up, [TWICE], value)

    def test_arguments_stay_as_they_are(self):
        made = [TWICE, READ("a:a")]
        first = given_up(made, Right.words("e", "xc"))
        self.assertEqual(len(made), 2)
        made.pop()
        self.assertEqual(first, given_up([TWICE, READ("a:a")], Right.words("e", "xc")))


if __name__ == "__main__":
    unittest.main()
