"""What several test files use."""

import itertools

from blindrepair.alike import Parted, Same
from blindrepair.codes import ReadTable, WriteTable
from blindrepair.desk import Desk
from blindrepair.effects import effect_of
from blindrepair.errors import BadLetter, RepairError
from blindrepair.fixers import Fixer
from blindrepair.given_up import GivenUp
from blindrepair.lost import Kept, KeptAll, Lost
from blindrepair.merging import Merged, OneToOne
from blindrepair.misreadings import Misreading
from blindrepair.mixed import Blurred, Readable
from blindrepair.numbers import numbers_of
from blindrepair.origins import Origin
from blindrepair.repairs import Undoing
from blindrepair.rights import Right
from blindrepair.sound import Alike, Sound, Still, Unsound
from blindrepair.stores import Store
from blindrepair.verdicts import Calm, Clash, Entry


def any_values():
    """Values of every kind, new ones at each call."""
    return [None, True, False, 0, 1, -1, 2, 255, 256, 10 ** 69, "", "a", "b", "A", "ab", "aB", "a b", " ", "-", "a:b",
            "a\n", "\n", "1", "end", (), [], {}, ("a",), ["a"], [""], {"a": "b"}, {"a": 1}, {1: "a"}, (0,), [0], (0, "a"),
            ("a", "b"), ({}, True), ({"a": 0}, True), [({}, True)], ((((("a",),),),),), Misreading({"a": "b"}),
            Right.words("a"), effect_of([Misreading({"a": "b"})], Right.words("a"), (0,)),
            Clash("a", (0,)), Calm(()), Entry(None, None, (0,), ()),
            Origin((), "a"), numbers_of(Misreading({"a": "b"}), Right.words("a")), Same((), ()), Parted("a"),
            WriteTable({"a": (97,)}), ReadTable({97: "a"}), OneToOne((), ()), Merged("a", "b"), Sound(()),
            Unsound("a", 0, "b", 0), Alike((), ()), Still("one", (), ()), Kept(1, ()), KeptAll(()), Lost(1, "a", "b"),
            GivenUp("a", ()), Fixer(("ab", "a")), Undoing(Misreading({"a": "b"})), Readable((), ()),
            Blurred("a", (0,), "b", (0,)), Store([Misreading({"a": "b"})], Right.words("a")), Desk(), BadLetter(1),
            RepairError("no")]


def values_but(fits):
    """Values of every kind for which a test does not hold."""
    return [value for value in any_values() if not fits(value)]


def wrong_lists():
    """Wrong values for a list of misreadings, each with the index that the error tells."""
    same = Misreading.same("a")
    for value in values_but(lambda value: type(value) in (list, tuple) and 1 <= len(value) <= 4):
        yield value, None
    for wrong in ([], (), [same] * 5, (same,) * 5, [5] * 5):
        yield wrong, None
    for value in values_but(lambda value: isinstance(value, Misreading)):
        for at in range(4):
            made = [same] * at + [value] + [5] * (3 - at)
            yield made, at
            yield tuple(made), at


def is_letter(value):
    return type(value) is str and len(value) == 1 and "a" <= value <= "z"


def is_text(value):
    return type(value) is str and len(value) <= 2000 and all("a" <= letter <= "z" for letter in value)


def is_integer(value):
    return type(value) is int


def texts(letters, most):
    """All texts of at most so many letters, by length, then ascending."""
    return ["".join(row) for size in range(most + 1) for row in itertools.product(sorted(letters), repeat=size)]


def like(one, other):
    """Whether two values are the same, of the same kinds throughout."""
    if type(one) is not type(other):
        return False
    if isinstance(one, (list, tuple)):
        return len(one) == len(other) and all(like(a, b) for a, b in zip(one, other))
    if isinstance(one, dict):
        return (sorted(map(repr, one)) == sorted(map(repr, other))
                and all(like(one[key], other[key]) for key in one))
    return one == other


class Checks:
    """Assertions for test cases."""

    def assertLike(self, one, other):
        self.assertTrue(like(one, other), f"{one!r} is not {other!r}")

    def assertRaisesWith(self, kind, fields, call, *args, **more):
        """The call raises an error of just this class with just these fields."""
        with self.assertRaises(RepairError) as caught:
            call(*args, **more)
        self.assertIs(type(caught.exception), kind, f"{type(caught.exception).__name__} {vars(caught.exception)}")
        self.assertLike(tuple(vars(caught.exception).values()), tuple(fields))
        return caught.exception
