import inspect
import unittest

from blindrepair import errors
from blindrepair.errors import RepairError
from tests.helpers import Checks, any_values

FIELDS = {
    "BadLetter": ["value"], "BadWord": ["value"], "BadImage": ["letter"], "BadNumber": ["value"], "BadTable": ["part"],
    "BadCode": ["value"], "NoSign": ["letter"], "Unread": ["at"], "Barred": ["at"], "NoImage": [],
    "Merging": ["one", "other"], "Unlike": ["letter"], "BadRight": ["part"], "BadList": ["at"], "BadRow": ["at"],
    "NoOrigin": ["text"], "Several": ["one", "other"], "Ring": ["text"], "BadFixer": ["at"], "BadName": ["value"],
    "NoName": ["name"], "Nothing": [], "TooMany": ["what", "most"], "BadText": ["line", "word"], "BadCommand": ["word"]}


class ErrorTests(Checks, unittest.TestCase):

    def test_there_are_just_these_errors_and_their_base(self):
        found = {name for name, each in vars(errors).items() if isinstance(each, type)}
        self.assertEqual(found, {*FIELDS, "RepairError"})
        self.assertEqual(len(FIELDS), 25)

    def test_each_is_defined_in_errors_directly_below_the_base(self):
        for name in FIELDS:
            kind = getattr(errors, name)
            self.assertEqual(kind.__bases__, (RepairError,), name)
            self.assertEqual(kind.__module__, "blindrepair.errors")
            self.assertIn("__init__", vars(kind))
        self.assertEqual(RepairError.__bases__, (ValueError,))

    def test_the_fields_by_position_and_by_name_are_any_values(self):
        for name, fields in FIELDS.items():
            kind = getattr(errors, name)
            self.assertEqual(list(inspect.signature(kind).parameters), fields)
            for value in any_values():
                values = [value, "second"][:len(fields)]
                for error in (kind(*values), kind(**dict(zip(fields, values)))):
                    self.assertEqual(list(vars(error)), fields)
                    self.assertLike([getattr(error, field) for field in fields], values)

    def test_fields_in_other_order_by_name(self):
        error = errors.TooMany(most=8, what="standings")
        self.assertEqual((error.what, error.most), ("standings", 8))
        error = errors.BadText(word=3, line=1)
        self.assertEqual((error.line, error.word), (1, 3))

    def test_what_is_done_to_a_field_later_changes_no_error(self):
        given = [1, {"a": ["b"]}, (["c"],)]
        error = errors.BadWord(given)
        given[1]["a"].append(2)
        given[2][0].append(3)
        given.append(4)
        self.assertLike(error.value, [1, {"a": ["b"]}, (["c"],)])

    def test_each_is_caught_by_its_base_and_by_no_other_one(self):
        for name, fields in FIELDS.items():
            kind = getattr(errors, name)
            error = kind(*["x", "y"][:len(fields)])
            for base in (kind, RepairError, ValueError):
                with self.assertRaises(base):
                    raise error
            for other in FIELDS:
                self.assertEqual(isinstance(error, getattr(errors, other)), other == name)

    def test_each_has_a_message(self):
        for name, fields in FIELDS.items():
            self.assertTrue(str(getattr(errors, name)(*["x", "y"][:len(fields)])))
        self.assertEqual(str(RepairError("why")), "why")

    def test_a_field_more_or_less_cannot_stand(self):
        for name, fields in FIELDS.items():
            kind = getattr(errors, name)
            with self.assertRaises(TypeError):
                kind(*["x"] * (len(fields) + 1))
            if fields:
                with self.assertRaises(TypeError):
                    kind(*["x"] * (len(fields) - 1))
