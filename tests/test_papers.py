import unittest

from blindrepair import papers
from blindrepair.alike import Parted, Same
from blindrepair.desk import Desk
from blindrepair.given_up import GivenUp
from blindrepair.lost import Kept, KeptAll, Lost
from blindrepair.merging import Merged, OneToOne
from blindrepair.misreadings import Misreading
from blindrepair.mixed import Blurred, Readable
from blindrepair.origins import Origin
from blindrepair.papers import Verdict
from blindrepair.repairs import Undoing
from blindrepair.sound import Alike, Sound, Still, Unsound
from blindrepair.stores import Store
from blindrepair.verdicts import Calm, Clash, Entry
from tests.helpers import Checks, any_values, like

FIELDS = {OneToOne: ["leads", "dead"], Merged: ["one", "other"], Sound: ["papers"],
          Unsound: ["one", "first", "other", "second"], Alike: ["leads", "dead"], Still: ["side", "living", "dead"],
          Calm: ["entries"], Clash: ["text", "row"], Entry: ["first", "parent", "nexts", "pairs"],
          Origin: ["row", "text"], Same: ["margins", "dead"], Parted: ["text"],
          Kept: ["number", "dead"], KeptAll: ["keeps"], Lost: ["number", "one", "other"], GivenUp: ["kept", "clashes"],
          Readable: ["leads", "dead"], Blurred: ["one", "counts", "other", "others"]}


class PaperTests(Checks, unittest.TestCase):

    def test_they_are_made_of_any_values_by_position_and_by_name(self):
        for kind, fields in FIELDS.items():
            for at in range(len(fields)):
                for value in any_values():
                    values = ["x"] * len(fields)
                    values[at] = value
                    one, other = kind(*values), kind(**dict(zip(fields, values)))
                    self.assertEqual(list(vars(one)), fields)
                    self.assertLike([getattr(one, field) for field in fields], values)
                    self.assertLike([getattr(other, field) for field in fields], values)
                    if not isinstance(value, ValueError):
                        self.assertTrue(one == other)
                        self.assertFalse(one != other)

    def test_they_are_equal_if_all_attributes_are(self):
        # Errors, Undoings, Stores and Desks equal nothing but themselves.
        same = (ValueError, Undoing, Store, Desk)
        lefts = [value for value in any_values() if not isinstance(value, same)]
        rights = [value for value in any_values() if not isinstance(value, same)]
        for kind, fields in FIELDS.items():
            for at in range(len(fields)):
                before, behind = ["x"] * at, ["x"] * (len(fields) - at - 1)
                ones = [kind(*before, value, *behind) for value in lefts]
                others = [kind(*before, value, *behind) for value in rights]
                for first, one in enumerate(ones):
                    for second, other in enumerate(others):
                        self.assertEqual(one == other, first == second, (lefts[first], rights[second]))

    def test_each_attribute_counts(self):
        for kind, fields in FIELDS.items():
            for at in range(len(fields)):
                values = ["x"] * len(fields)
                others = list(values)
                others[at] = "y"
                self.assertFalse(kind(*values) == kind(*others))
                self.assertTrue(kind(*values) != kind(*others))

    def test_kinds_count_at_every_depth(self):
        pairs = [(1, True), (0, False), ((1,), (True,)), ((1,), [1]), ([0], [False]), ({"a": 1}, {"a": True}),
                 ({1: "a"}, {True: "a"}), ({(0, 1): "a"}, {(0, True): "a"}), (((((1,),),),), ((((True,),),),)),
                 ((Merged(1, 2),), (Merged(True, 2),)), ({"a": [1]}, {"a": (1,)})]
        for kind, fields in FIELDS.items():
            for left, right in pairs:
                values = ["x"] * (len(fields) - 1)
                self.assertFalse(kind(left, *values) == kind(right, *values), (left, right))
                self.assertFalse(kind(*values, right) == kind(*values, left), (left, right))
                self.assertTrue(kind(*values, right) == kind(*values, right))

    def test_the_order_of_a_dict_does_not_count_but_its_size_does(self):
        self.assertTrue(Merged({"a": 1, "b": 2}, 0) == Merged({"b": 2, "a": 1}, 0))
        self.assertFalse(Merged({"a": 1, "b": 2}, 0) == Merged({"a": 1}, 0))
        self.assertFalse(Merged({"a": 1}, 0) == Merged({"b": 1}, 0))
        self.assertFalse(Merged((1, 2), 0) == Merged((1,), 0))

    def test_they_equal_nothing_else(self):
        for kind, fields in FIELDS.items():
            paper = kind(*[()] * len(fields))
            for value in any_values():
                if type(value) is not kind:
                    self.assertFalse(paper == value)
                    self.assertFalse(value == paper)
            for other, names in FIELDS.items():
                self.assertEqual(paper == other(*[()] * len(names)), kind is other)

    def test_what_is_done_to_an_argument_later_changes_no_paper(self):
        for kind, fields in FIELDS.items():
            given = [1, {"a": ["b"]}, (["c"],)]
            paper = kind(*[given] * len(fields))
            given[1]["a"].append(2)
            given[2][0].append(3)
            given.append(4)
            for field in fields:
                self.assertLike(getattr(paper, field), [1, {"a": ["b"]}, (["c"],)])

    def test_objects_are_kept_as_they_are(self):
        misreading = Misreading({"a": "b"})
        self.assertIs(Merged(misreading, (misreading,)).one, misreading)
        self.assertIs(Merged(misreading, (misreading,)).other[0], misreading)

    def test_the_first_one_is_true_and_the_other_one_false(self):
        for paper, holds in ((OneToOne((), ()), True), (Merged("a", "b"), False), (Sound(()), True),
                             (Unsound("a", 0, "b", 0), False), (OneToOne(None, None), True), (Sound(None), True),
                             (Calm(()), True), (Clash("a", (0,)), False), (Same((), ()), True), (Parted("a"), False),
                             (Kept(1, ()), True), (KeptAll(()), True), (KeptAll(None), True), (Lost(1, "a", "b"), False),
                             (Readable((), ()), True), (Blurred("a", (0,), "b", (0,)), False)):
            self.assertIs(bool(paper), holds)
            self.assertIsInstance(paper, Verdict)
            for name in ("__init__", "__eq__", "__bool__"):
                self.assertIn(name, vars(type(paper)))
        self.assertNotIsInstance(Alike((), ()), Verdict)
        self.assertNotIsInstance(Still("one", (), ()), Verdict)
        self.assertNotIsInstance(Entry(None, None, (0,), ()), Verdict)
        self.assertNotIsInstance(Origin((), "a"), Verdict)
        self.assertNotIsInstance(GivenUp("a", ()), Verdict)

    def test_verdict_is_defined_in_papers(self):
        self.assertEqual(Verdict.__module__, papers.__name__)

    def test_the_second_way_of_comparing_tells_kinds_apart(self):
        self.assertFalse(like((1,), (True,)) or like([1], (1,)) or like({1: 2}, {True: 2}))
        self.assertTrue(like({1: (2, [None])}, {1: (2, [None])}))
