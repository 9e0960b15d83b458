"""Names, files, arguments and attributes of the interface."""

import importlib
import inspect
import unittest

from blindrepair.alike import Parted, Same
from blindrepair.codes import ReadTable, WriteTable
from blindrepair.desk import Desk
from blindrepair.effects import Effect
from blindrepair.fixers import Fixer
from blindrepair.given_up import GivenUp
from blindrepair.lost import Kept, KeptAll, Lost
from blindrepair.merging import Merged, OneToOne
from blindrepair.misreadings import Misreading
from blindrepair.mixed import Blurred, Readable
from blindrepair.numbers import Numbers
from blindrepair.origins import Origin
from blindrepair.powers import Powers
from blindrepair.repairs import Repair, Undoing
from blindrepair.rights import Right
from blindrepair.sound import Alike, Sound, Still, Unsound
from blindrepair.stores import Store
from blindrepair.verdicts import Calm, Clash, Entry

NAMES = {
    "errors": {"RepairError": None},
    "papers": {"Verdict": None},
    "codes": {"WriteTable": ["codes"], "ReadTable": ["signs"], "misread_by": ["write", "read"],
              "reread": ["text", "write", "read"], "written": ["misreading", "read"]},
    "misreadings": {"Misreading": ["images", "keeps"]},
    "rows": {"along": ["misreadings", "text", "row"]},
    "merging": {"merging": ["misreading"], "OneToOne": ["leads", "dead"], "Merged": ["one", "other"],
                "shows_merging": ["misreading", "value"]},
    "sound": {"sound": ["misreadings"], "Sound": ["papers"], "Unsound": ["one", "first", "other", "second"],
              "Alike": ["leads", "dead"], "Still": ["side", "living", "dead"]},
    "look_sound": {"shows_sound": ["misreadings", "value"]},
    "rights": {"Right": ["standings"]},
    "effects": {"effect_of": ["misreadings", "right", "row"], "effects": ["misreadings", "right"]},
    "powers": {"Powers": ["misreading", "right"]},
    "verdicts": {"decide": ["misreadings", "right"], "Calm": ["entries"], "Clash": ["text", "row"],
                 "Entry": ["first", "parent", "nexts", "pairs"], "risk_of": ["misreadings", "right", "text"]},
    "look_verdicts": {"shows_verdict": ["misreadings", "right", "value"]},
    "origins": {"Origin": ["row", "text"], "origins": ["misreadings", "text"],
                "come_of": ["misreadings", "text", "origin"], "right_ones": ["misreadings", "right", "text"],
                "repaired": ["misreadings", "right", "text"]},
    "look_origins": {"shows_origin": ["misreadings", "text", "row", "origin"]},
    "numbers": {"numbers_of": ["misreading", "right"], "Numbers": None, "turned_by": ["misreading", "right", "k"],
                "settles": ["misreading", "right", "q"], "least_remainder": ["misreading", "right"]},
    "marks": {"least_mark": ["misreadings", "letters", "most"], "shows_mark": ["misreadings", "letters", "mark"]},
    "alike": {"alike": ["one", "other", "right"], "Same": ["margins", "dead"], "Parted": ["text"],
              "shows_alike": ["one", "other", "right", "paper"]},
    "lost": {"lost": ["misreading", "right", "number"], "ever_lost": ["misreading", "right"], "Kept": ["number", "dead"],
             "KeptAll": ["keeps"], "Lost": ["number", "one", "other"], "shows_lost": ["misreading", "right", "paper"]},
    "given_up": {"given_up": ["misreadings", "right"], "GivenUp": ["kept", "clashes"]},
    "repairs": {"Repair": None, "Undoing": ["misreading"]},
    "fixers": {"Fixer": ["pairs"]},
    "mixed": {"mixed": ["misreading", "letters", "most"], "Readable": ["leads", "dead"],
              "Blurred": ["one", "counts", "other", "others"], "shows_mixed": ["misreading", "letters", "most", "value"]},
    "stores": {"Store": ["misreadings", "right", "limit"]},
    "texts": {"write_misreadings": ["misreadings"], "write_right": ["right"], "write_fixer": ["fixer"],
              "write_table": ["table"]},
    "reader": {"read": ["text"], "read_misreadings": ["text"], "read_right": ["text"], "read_fixer": ["text"],
               "read_table": ["text"]},
    "desk": {"Desk": []}}

METHODS = {
    Misreading: {"__contains__": None, "__len__": [], "__iter__": [], "__getitem__": None, "__call__": ["text"],
                 "step": ["text"], "__rshift__": None, "__pow__": None, "__or__": None, "__le__": None, "__eq__": None,
                 "only": ["letters"], "same": ["letters"], "__str__": [], "read": ["text"]},
    WriteTable: {"__contains__": None, "__len__": [], "__iter__": [], "__getitem__": None, "__call__": ["text"],
                 "__or__": None, "__eq__": None},
    ReadTable: {"__contains__": None, "__len__": [], "__iter__": [], "__getitem__": None, "__call__": ["numbers"],
                "__invert__": [], "__eq__": None},
    Right: {"words": ["words"], "over": ["letters"], "avoiding": ["letters", "words"], "__len__": [], "__bool__": [],
            "__contains__": None, "__getitem__": None, "__and__": None, "__or__": None, "__sub__": None, "__le__": None,
            "after": ["text"], "ahead": ["text"], "without": ["letters"], "least": [], "texts": ["most"], "count": ["n"],
            "__eq__": None, "__str__": [], "read": ["text"]},
    OneToOne: {"__eq__": None, "__bool__": []}, Merged: {"__eq__": None, "__bool__": []},
    Sound: {"__eq__": None, "__bool__": []}, Unsound: {"__eq__": None, "__bool__": []},
    Alike: {"__eq__": None}, Still: {"__eq__": None},
    Effect: {"__iter__": [], "__getitem__": None, "single": ["letter"], "ahead": ["misreading"],
             "behind": ["text", "start"], "changes": ["text"], "__contains__": None, "__eq__": None},
    Powers: {"__len__": [], "__iter__": [], "__call__": ["k"], "turns": ["text", "k"]},
    Calm: {"__eq__": None, "__bool__": []}, Clash: {"__eq__": None, "__bool__": []}, Entry: {"__eq__": None},
    Origin: {"__eq__": None},
    Numbers: {"__contains__": None, "__len__": [], "__bool__": [], "__eq__": None, "walk": ["first"]},
    Same: {"__eq__": None, "__bool__": []}, Parted: {"__eq__": None, "__bool__": []},
    Kept: {"__eq__": None, "__bool__": []}, KeptAll: {"__eq__": None, "__bool__": []},
    Lost: {"__eq__": None, "__bool__": []}, GivenUp: {"__eq__": None},
    Repair: {"__call__": ["text"], "spoiled": ["right"]},
    Undoing: {"undo": ["text"], "chain": ["text"], "__call__": ["text"], "until": ["text", "right"], "spoiled": ["right"]},
    Fixer: {"of": ["misreading"], "__len__": [], "__iter__": [], "__eq__": None, "places": ["text"], "once": ["text"],
            "__call__": ["text"], "spoiled": ["right"], "takes_back": ["misreading", "text"],
            "stray": ["misreading", "right"]},
    Readable: {"__eq__": None, "__bool__": []}, Blurred: {"__eq__": None, "__bool__": []},
    Store: {"__getitem__": None, "__setitem__": None, "put": ["name", "text"], "drop": ["name"], "__len__": [],
            "__iter__": [], "__contains__": None, "between": ["first", "last"], "set_limit": ["value"],
            "misread": ["index", "names"], "__irshift__": None, "repair": [], "doubtful": [], "undo": [], "trial": [],
            "tried": ["work"]},
    Desk: {"say": ["line"], "__call__": ["line"], "say_all": ["lines"], "__len__": [], "__iter__": [],
           "__contains__": None}}


class InterfaceTests(unittest.TestCase):

    def test_each_name_is_defined_in_its_file(self):
        for file, names in NAMES.items():
            module = importlib.import_module(f"blindrepair.{file}")
            for name, parameters in names.items():
                value = vars(module)[name]
                self.assertEqual(value.__module__, f"blindrepair.{file}")
                if parameters is not None:
                    self.assertEqual(list(inspect.signature(value).parameters), parameters, name)

    def test_each_method_is_defined_in_the_body_of_its_class(self):
        for kind, methods in METHODS.items():
            for name, parameters in methods.items():
                self.assertIn(name, vars(kind), kind)
                told = vars(kind)[name]
                function = getattr(told, "__func__", told)
                found = list(inspect.signature(function).parameters)
                if isinstance(told, staticmethod):
                    self.assertEqual(found, parameters)
                elif parameters is not None:
                    self.assertEqual(found[1:], parameters)

    def test_static_and_class_methods(self):
        for kind, name, sort in ((Misreading, "same", staticmethod), (Misreading, "read", classmethod),
                                 (Right, "words", staticmethod), (Right, "over", staticmethod),
                                 (Right, "avoiding", staticmethod), (Right, "read", classmethod), (Fixer, "of", classmethod)):
            self.assertIs(type(vars(kind)[name]), sort)

    def test_attributes_are_set_on_each_object(self):
        for misreading in (Misreading({}), Misreading.same("a"), Misreading.read("a:b"), Misreading({"a": "b"}) ** 2):
            self.assertIn("changed", vars(misreading))
        for right in (Right(({}, True)), Right.words(), Right.over("a"), Right.read("end"), Right.over("a") - Right.words()):
            self.assertIn("standings", vars(right))
            self.assertIn("letters", vars(right))

    def test_the_defaults(self):
        self.assertEqual(inspect.signature(Misreading).parameters["keeps"].default, "")
        self.assertEqual(vars(Right)["MOST"], 8)
        self.assertEqual(inspect.signature(Effect.behind).parameters["start"].default, 0)
        self.assertEqual(inspect.signature(Numbers.walk).parameters["first"].default, 1)
        limit = inspect.signature(Store).parameters["limit"]
        self.assertEqual((limit.default, limit.kind), (40, inspect.Parameter.KEYWORD_ONLY))

    def test_properties(self):
        for kind in (Powers, Numbers):
            for name in ("begin", "period"):
                self.assertIs(type(vars(kind)[name]), property)
        for name in ("limit", "log"):
            self.assertIs(type(vars(Store)[name]), property)
