import itertools
import unittest

from blindrepair.errors import BadNumber, BadRight, BadTable, Merging, TooMany
from blindrepair.merging import merging
from blindrepair.misreadings import Misreading
from blindrepair.numbers import Numbers, least_remainder, numbers_of, settles, turned_by
from blindrepair.rights import Right
from tests.helpers import Checks, any_values, like, texts, values_but
from tests.plain_effects import image_along, is_right, just_300, plain_clash, plain_effect, some_cases, step_ahead

READ = Misreading.read
WIDE, RING = READ("a:a c:c e:xc f:f x:xf"), READ("a:b b:c c:a")
LONG_RING = READ("a:b b:c c:d d:e e:f f:g g:h h:i i:j j:k k:l l:a")
GREAT = 10 ** 60


def plain_truths(misreading, right, most):
    """Whether 1, 2, 3 and so on misreadings turn some right text into another right one."""
    plain = plain_effect([misreading], right, ())
    found = []
    for _ in range(most):
        plain = step_ahead(plain, misreading)
        found.append(plain_clash(right, plain) is not None)
    return found


def numbers_cases(seed, many):
    for misreadings, right in some_cases(seed, many, "abcd", standings=6, misreadings=1):
        yield misreadings[0], right


def ring_cases():
    """Rings with right sets that make numbers with several periods and beginnings."""
    six = READ("a:b b:c c:d d:e e:f f:a")
    for words in (("a", "d"), ("a", "c", "e"), ("a", "b"), ("a", "c"), ("a",), ("ad", "be"), ("a", "b", "c", "d", "e", "f")):
        yield six, Right.words(*words)
    late = READ("a:b b:c c:d d:e e:c")
    for words in (("a", "b"), ("a", "c"), ("a", "d", "b"), ("b", "e"), ("a", "e"), ("c", "d"), ("a", "c", "d", "e")):
        yield late, Right.words(*words)
    two = READ("a:b b:a x:y y:z z:x")
    for words in (("a", "b"), ("a", "b", "x", "y"), ("ax", "by"), ("x", "y", "z")):
        yield two, Right.words(*words)
    grow = READ("f:f x:xf")
    for text in ("x", "xf", "xff", "x xfff", "x xfffff", "xf xff xfffff"):
        yield grow, Right.words(*text.split())
    yield grow, Right(({"x": 1}, False), ({"f": 2}, True), ({"f": 3}, False), ({"f": 1}, False))
    yield grow, Right(({"x": 1}, False), ({"f": 2}, True), ({"f": 3}, True), ({"f": 4}, False), ({"f": 5}, False),
                      ({"f": 4}, True))


class NumbersTests(Checks, unittest.TestCase):

    def test_one_by_one(self):
        begins, periods = set(), set()
        for misreading, right in [*numbers_cases(601, 250), *ring_cases()]:
            numbers = numbers_of(misreading, right)
            begin, period = numbers.begin, numbers.period
            self.assertTrue(type(begin) is int and type(period) is int and begin >= 1 and period >= 1)
            many = max(40, 2 * (begin + period) + 24)
            truths = plain_truths(misreading, right, many)
            self.assertLike(numbers.truths, tuple(truths[:begin + period - 1]))
            self.assertEqual(len(numbers), begin + period - 1)
            self.assertIs(bool(numbers), any(truths))
            for k in range(1, many + 1):
                self.assertIs(k in numbers, truths[k - 1])
            # From the beginning on they come again, and not from an earlier one on, and with no lesser period.
            self.assertEqual(truths[begin - 1:many - period], truths[begin - 1 + period:])
            self.assertTrue(begin == 1 or truths[begin - 2] != truths[begin - 2 + period])
            for less in range(1, period):
                self.assertNotEqual(truths[many // 2:many - less], truths[many // 2 + less:])
            begins.add(begin)
            periods.add(period)
        self.assertTrue(len(begins) > 4 and {1, 2, 3, 6} <= periods, (begins, periods))

    def test_against_images_of_short_texts(self):
        for misreading, right in [*numbers_cases(602, 100), *ring_cases()]:
            numbers = numbers_of(misreading=misreading, right=right)
            for k in range(1, 5):
                turned = [text for text in texts(right.letters, 2) if is_right(right, text)
                          and image_along([misreading], (0,) * k, text) not in (None, text)
                          and is_right(right, image_along([misreading], (0,) * k, text))]
                if turned:
                    self.assertIs(k in numbers, True)

    def test_told_by_hand(self):
        told = {}
        for misreading, right in ((WIDE, Right.words("e", "xc")), (RING, Right.words("a", "b")), (RING, Right.words("a")),
                                  (RING, Right.words("a", "b", "c")), (WIDE, Right.words()),
                                  (READ("f:f x:xf"), Right.words("x", "xf", "xfff")), (Misreading({}), Right.over("a"))):
            numbers = numbers_of(misreading, right)
            told[len(told)] = (numbers.begin, numbers.period, numbers.truths)
        self.assertEqual(list(told.values()), [(2, 1, (True, False)), (1, 3, (True, True, False)), (1, 1, (False,)),
                                               (1, 3, (True, True, False)), (1, 1, (False,)),
                                               (4, 1, (True, True, True, False)), (1, 1, (False,))])

    def test_in_for_any_value_and_great_numbers(self):
        ring, few = numbers_of(RING, Right.words("a", "b")), numbers_of(WIDE, Right.words("e", "xc"))
        for value in any_values():
            self.assertIs(value in ring, type(value) is int and value > 0 and value % 3 != 0)
            self.assertIs(value in few, like(value, 1))
        for k in (GREAT, 10 ** 69, GREAT + 1, 3 * GREAT, 10 ** 75 + 2, 7 * 10 ** 61 - 1):
            self.assertIs(k in ring, k % 3 != 0)
            self.assertIs(-k in ring, False)
            self.assertIs(k in few, False)
        all_numbers = numbers_of(READ("f:f x:xf"), Right.over("xf"))
        self.assertEqual(all_numbers.truths, (True,))
        for value in (0, -1, -2, -3, True, False, 1.0, "1", (1,), None):
            self.assertIs(value in ring, False)
            self.assertIs(value in all_numbers, False)

    def test_equal(self):
        made = [numbers_of(misreading, right) for misreading, right in [*ring_cases(), *numbers_cases(603, 40)]]
        results = set()
        for one in made:
            for other in made:
                same = (one.begin, one.period, one.truths) == (other.begin, other.period, other.truths)
                self.assertIs(one == other, same)
                results.add(same)
            for value in any_values():
                if not isinstance(value, Numbers):
                    self.assertFalse(one == value)
                    self.assertFalse(value == one)
        self.assertEqual(results, {True, False})
        # The same truths, but another period: x is an end after 1 and 3 misreadings of four, or of two.
        one = numbers_of(READ("a:b b:c c:d d:a"), Right.words("a", "b", "d"))
        self.assertEqual((one.begin, one.period, one.truths), (1, 4, (True, True, True, False)))
        other = numbers_of(READ("f:f x:xf"), Right.words("x", "xf", "xfff"))
        self.assertEqual((other.begin, other.period, other.truths), (4, 1, (True, True, True, False)))
        self.assertFalse(one == other)
        self.assertTrue(one != other)

    def test_walk(self):
        for misreading, right in [*numbers_cases(604, 100), *ring_cases()]:
            numbers = numbers_of(misreading, right)
            last = numbers.begin + numbers.period
            again = any(numbers.truths[numbers.begin - 1:])
            for first in [1, 2, numbers.begin, numbers.begin + 1, last, last + 1, 3 * last, GREAT - 1, GREAT]:
                expected = [k for k in range(first, first + 3 * last + 1) if k in numbers]
                if not again:
                    self.assertEqual(list(numbers.walk(first)), expected)
                    self.assertEqual(list(numbers.walk(first=first)), expected)
                else:
                    self.assertEqual(list(itertools.islice(numbers.walk(first), len(expected))), expected)
            self.assertEqual(list(itertools.islice(numbers.walk(), 5)), list(itertools.islice(numbers.walk(1), 5)))

    def test_walk_ends_or_not(self):
        few, ring = numbers_of(WIDE, Right.words("e", "xc")), numbers_of(RING, Right.words("a", "b"))
        self.assertEqual([list(few.walk()), list(few.walk(2)), list(few.walk(GREAT))], [[1], [], []])
        self.assertEqual(list(itertools.islice(ring.walk(GREAT), 4)), [GREAT, GREAT + 1, GREAT + 3, GREAT + 4])
        none = numbers_of(RING, Right.words("a"))
        self.assertEqual([list(none.walk()), list(none.walk(GREAT))], [[], []])
        far = numbers_of(*just_300())
        self.assertEqual(list(itertools.islice(far.walk(10 ** 59), 2000))[0], 10 ** 59)

    def test_walk_with_wrong_numbers(self):
        numbers = numbers_of(RING, Right.words("a", "b"))
        for value in [*values_but(lambda value: type(value) is int and 1 <= value <= GREAT), 0, -1, GREAT + 1, True, 1.0]:
            self.assertRaisesWith(BadNumber, (value,), lambda: next(numbers.walk(value)))
            self.assertRaisesWith(BadNumber, (value,), lambda: list(numbers.walk(value)))

    def test_attributes(self):
        numbers = numbers_of(RING, Right.words("a", "b"))
        self.assertIn("truths", vars(numbers))
        self.assertLike((numbers.begin, numbers.period), (1, 3))
        for name in ("__contains__", "__len__", "__bool__", "__eq__", "walk"):
            self.assertIn(name, vars(Numbers))

    def test_just_300_effects_and_more(self):
        misreading, right = just_300()
        numbers = numbers_of(misreading, right)
        truths = plain_truths(misreading, right, 900)
        self.assertEqual([k in numbers for k in range(1, 901)], truths)
        misreading, right = just_300(more=True)
        self.assertRaisesWith(TooMany, ("effects", 300), numbers_of, misreading, right)
        self.assertRaisesWith(TooMany, ("effects", 300), turned_by, misreading, right, 0)
        self.assertRaisesWith(TooMany, ("effects", 300), settles, misreading, right, 0)
        self.assertRaisesWith(TooMany, ("effects", 300), least_remainder, misreading, right)

    def test_wrong_arguments_in_their_order(self):
        for value in values_but(lambda value: isinstance(value, Misreading)):
            self.assertRaisesWith(BadTable, ("misreading",), numbers_of, value, 5)
            self.assertRaisesWith(BadTable, ("misreading",), turned_by, value, 5, 0)
            self.assertRaisesWith(BadTable, ("misreading",), settles, value, 5, 0)
            self.assertRaisesWith(BadTable, ("misreading",), least_remainder, value, 5)
        for value in values_but(lambda value: isinstance(value, Right)):
            self.assertRaisesWith(BadRight, ("right",), numbers_of, RING, value)
            self.assertRaisesWith(BadRight, ("right",), turned_by, RING, value, 0)
            self.assertRaisesWith(BadRight, ("right",), settles, READ("a:b c:b"), value, 0)
            self.assertRaisesWith(BadRight, ("right",), least_remainder, READ("a:b c:b"), value)


class TurnedByTests(Checks, unittest.TestCase):

    def test_the_shortest_and_first_text(self):
        sizes = set()
        for misreading, right in [*numbers_cases(611, 150), *ring_cases()]:
            for k in range(1, 7):
                turned = [text for text in texts(right.letters, 4) if is_right(right, text)
                          and image_along([misreading], (0,) * k, text) not in (None, text)
                          and is_right(right, image_along([misreading], (0,) * k, text))] if k < 5 else None
                plain = plain_effect([misreading], right, ())
                for _ in range(k):
                    plain = step_ahead(plain, misreading)
                found = turned_by(misreading=misreading, right=right, k=k)
                self.assertEqual(found, plain_clash(right, plain))
                self.assertIs(k in numbers_of(misreading, right), found is not None)
                if turned:
                    self.assertEqual(found, turned[0])
                    sizes.add(len(found))
        self.assertTrue({1, 2, 3} <= sizes, sizes)

    def test_great_numbers(self):
        two = Right.words("a", "b")
        self.assertEqual([turned_by(RING, two, k) for k in (1, 5, 3, GREAT, GREAT - 1, GREAT - 2)],
                         ["a", "b", None, "a", None, "b"])
        self.assertEqual([turned_by(LONG_RING, Right.words("a", "e"), k) for k in (4, 8, 16, GREAT)], ["a", "e", "a", "a"])
        self.assertIsNone(turned_by(WIDE, Right.words("e", "xc"), GREAT))

    def test_wrong_numbers(self):
        for value in [*values_but(lambda value: type(value) is int and 1 <= value <= GREAT), 0, -1, GREAT + 1, True]:
            self.assertRaisesWith(BadNumber, (value,), turned_by, RING, Right.words("a", "b"), value)


class RemainderTests(Checks, unittest.TestCase):

    def one_to_one(self):
        for misreading, right in [*numbers_cases(621, 400), *ring_cases()]:
            if merging(misreading):
                yield misreading, right

    def test_against_all_multiples(self):
        results = set()
        for misreading, right in self.one_to_one():
            numbers = numbers_of(misreading, right)
            most = 3 * (numbers.begin + numbers.period)
            truths = plain_truths(misreading, right, most * 3)
            settled = []
            for q in range(1, most):
                expected = not any(truths[k - 1] for k in range(q, 3 * most + 1, q))
                if q < most // 3 + 1:
                    self.assertIs(settles(misreading, right, q), expected)
                    if expected:
                        settled.append(q)
            least = least_remainder(misreading=misreading, right=right)
            self.assertEqual(least, settled[0] if settled else None)
            # There is one exactly if no number from the beginning on is a multiple of the period.
            begin, period = numbers.begin, numbers.period
            self.assertIs(least is not None, not any(k in numbers for k in range(begin, begin + period) if k % period == 0))
            results.add(min(least or 0, 4))
        self.assertEqual(results, {0, 1, 2, 3, 4})

    def test_what_settles_tells(self):
        """If q settles, no right text becomes another right one by a multiple of q misreadings."""
        for misreading, right in self.one_to_one():
            for q in (1, 2, 3):
                if settles(misreading, right, q):
                    for text in texts(right.letters, 2):
                        for k in range(q, 5, q):
                            image = image_along([misreading], (0,) * k, text)
                            if is_right(right, text) and image not in (None, text):
                                self.assertFalse(is_right(right, image))

    def test_great_numbers(self):
        two = Right.words("a", "b")
        self.assertEqual([settles(RING, two, q) for q in (1, 2, 3, 4, 6, GREAT, GREAT - 1)],
                         [False, False, True, False, True, False, True])
        five = Right.words("e", "xc")
        self.assertEqual([settles(WIDE, five, q) for q in (1, 2, GREAT)], [False, True, True])
        # Multiples of 8 leave 0, 4 and 8 by 12, those of 9 leave 0, 3, 6 and 9.
        right = Right.words("a", "e")
        self.assertEqual([settles(LONG_RING, right, q) for q in (8, 9, 12, 3, 5, 24, 10 ** 59)],
                         [False, True, True, True, False, True, False])

    def test_none(self):
        # Behind x stands f again and again: each number is one of the numbers.
        grow = READ("f:f x:xf")
        self.assertIsNone(least_remainder(grow, Right.over("xf")))
        self.assertEqual([settles(grow, Right.over("xf"), q) for q in (1, 2, 300, GREAT)], [False] * 4)
        self.assertEqual(least_remainder(grow, Right.words("x", "xf", "xff", "xffff")), 5)
        self.assertEqual(least_remainder(WIDE, Right.over("ae")), 1)
        self.assertEqual(least_remainder(RING, Right.words("a", "bc", "ca")), 3)

    def test_a_beginning_that_is_greater_than_the_period(self):
        grow = READ("f:f x:xf")
        # The numbers are 1, 2 and 4, and none from 5 on: no multiple of 3 is one of them.
        right = Right.words("x", "xf", "xff", "xffff").without()
        numbers = numbers_of(grow, right)
        self.assertEqual((numbers.begin, numbers.period, numbers.truths), (5, 1, (True, True, True, True, False)))
        self.assertEqual([settles(grow, right, q) for q in (1, 2, 3, 4, 5, 6)], [False, False, False, False, True, True])
        right = Right.words("x", "xff")
        self.assertEqual([settles(grow, right, q) for q in (1, 2, 3)], [False, False, True])
        self.assertEqual(least_remainder(grow, right), 3)

    def test_misreadings_that_are_not_one_to_one(self):
        many = 0
        for misreading, right in [*numbers_cases(622, 60), (READ("a:c b:c"), Right.words("a"))]:
            found = merging(misreading)
            if not found:
                many += 1
                for q in (1, 0, None):
                    self.assertRaisesWith(Merging, (found.one, found.other), settles, misreading, right, q)
                self.assertRaisesWith(Merging, (found.one, found.other), least_remainder, misreading, right)
        self.assertGreater(many, 10)

    def test_long_images(self):
        nine = READ("a:ab b:b") ** 8
        self.assertRaisesWith(TooMany, ("image", 8), settles, nine, Right.over("a"), 0)
        self.assertRaisesWith(TooMany, ("image", 8), least_remainder, nine, Right.over("a"))
        both = READ("a:ab b:b c:b") ** 8
        self.assertRaisesWith(TooMany, ("image", 8), settles, both, Right.over("a"), 0)
        eight = READ("a:ab b:b") ** 7
        self.assertIs(settles(eight, Right.over("a"), 1), True)
        # More effects are told ahead of images that are too long.
        misreading, right = just_300(more=True)
        four = Misreading({letter: letter * 4 for letter in misreading})
        for long in (misreading >> four, misreading >> four >> four):
            self.assertGreaterEqual(len(long["x"]), 8)
            self.assertRaisesWith(TooMany, ("effects", 300), settles, long, right, 0)
            self.assertRaisesWith(TooMany, ("effects", 300), least_remainder, long, right)

    def test_wrong_numbers(self):
        for value in [*values_but(lambda value: type(value) is int and 1 <= value <= GREAT), 0, -1, GREAT + 1, True]:
            self.assertRaisesWith(BadNumber, (value,), settles, RING, Right.words("a", "b"), value)


if __name__ == "__main__":
    unittest.main()
