"""Meetings of lists whose labels have several letters, as [10] tells them."""

import random
import unittest

from blindrepair.look_meetings import right_leads
from blindrepair.meetings import Meetings, lead_behind, lead_of, leads_of, rests_of, unlike_meeting
from tests.helpers import Checks
from tests.meeting_ways import ahead_by


def some_lists(seed, many):
    chance = random.Random(seed)
    for _ in range(many):
        yield [[("".join(chance.choice("xy") for _ in range(chance.randint(1, 3))),
                 "".join(chance.choice("ab") for _ in range(chance.randint(1, 2))))
                for _ in range(chance.randint(1, 3))] for _ in range(2)]


def ends(first, second, most):
    """The joined labels of all meetings with at most so many pairs, told by joining words."""
    found = []
    waiting = [((word,), (), label, "") for word, label in first]
    while waiting:
        one, other, label, more = waiting.pop()
        rest = ahead_by("".join(one), "".join(other))
        if rest is not None and rest[1] == "":
            found.append((label, more))
        elif rest is not None and len(one) + len(other) < most:
            if rest[0] == "one":
                waiting += [(one, other + (word,), label, more + told) for word, told in second]
            else:
                waiting += [(one + (word,), other, label + told, more) for word, told in first]
    return found


class MeetingTests(Checks, unittest.TestCase):

    def test_leads_of_labels(self):
        self.assertEqual([lead_of(way) for way in (("", ""), ("ab", "a"), ("a", "ab"), ("ab", "b"))],
                         [("one", ""), ("one", "b"), ("two", "b"), None])
        for lead, taker, label, expected in (
                (("one", ""), "one", "ab", ("one", "ab")), (("one", ""), "two", "ab", ("two", "ab")),
                (("one", "a"), "one", "b", ("one", "ab")), (("one", "ab"), "two", "a", ("one", "b")),
                (("one", "ab"), "two", "ab", ("one", "")), (("two", "ab"), "one", "ab", ("one", "")),
                (("two", "a"), "one", "abb", ("one", "bb")), (("two", "a"), "two", "b", ("two", "ab")),
                (("one", "a"), "two", "b", None), (("two", "ab"), "one", "aa", None)):
            self.assertEqual(lead_behind(lead, taker, label), expected)

    def test_all_meetings_with_few_pairs(self):
        kinds = {True: 0, False: 0}
        for first, second in some_lists(61, 300):
            meetings = Meetings(first, second)
            found = unlike_meeting(meetings)
            few = ends(first, second, 8)
            kinds[found is None] += 1
            if found is None:
                self.assertEqual([way for way in few if way[0] != way[1]], [])
                self.assertTrue(right_leads(first, second, leads_of(meetings), rests_of(meetings, False)))
            else:
                self.assertNotEqual(found[0], found[1])
                self.assertTrue(any(way[0] != way[1] for way in few) or found in ends(first, second, 16))
        self.assertTrue(min(kinds.values()) > 40)
