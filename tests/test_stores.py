import random
import unittest

from blindrepair.errors import (BadList, BadName, BadNumber, BadRight, BadTable, BadWord, Barred, NoName, NoOrigin, Nothing,
                                RepairError, Several, TooMany)
from blindrepair.misreadings import Misreading
from blindrepair.origins import repaired, right_ones
from blindrepair.rights import Right
from blindrepair.stores import Store
from tests.helpers import Checks, any_values, is_text, values_but, wrong_lists
from tests.plain_effects import some_cases

READ = Misreading.read
WIDE, RING = READ("a:a c:c e:xc f:f x:xf"), READ("a:b b:c c:a")
FIVE_HUNDRED = READ("a:c b:c c:cc")


def is_name(value):
    return is_text(value) and 1 <= len(value) <= 8


def told(store):
    """All that can be seen of a store."""
    return {name: store[name] for name in store}, store.limit, store.log, len(store)


class Plain:
    """What a store has to be: a dict of texts, a limit, and a list of lines, each with what was ahead of it."""

    def __init__(self, misreadings, right, limit):
        self.misreadings, self.right, self.limit = misreadings, right, limit
        self.texts, self.past = {}, []

    def told(self):
        return dict(sorted(self.texts.items())), self.limit, tuple(line for line, *_ in self.past), len(self.texts)

    def change(self, line, texts, limit):
        if (texts, limit) != (self.texts, self.limit):
            self.past.append((line, self.texts, self.limit))
            self.texts, self.limit = texts, limit

    def put(self, name, text):
        if not is_name(name):
            raise BadName(name)
        if not is_text(text):
            raise BadWord(text)
        if name not in self.texts and len(self.texts) == self.limit:
            raise TooMany("names", self.limit)
        self.change(f"put {name}", {**self.texts, name: text}, self.limit)

    def drop(self, name):
        text = self.texts.get(name) if type(name) is str else None
        if text is None:
            raise NoName(name)
        self.change(f"drop {name}", {other: text for other, text in self.texts.items() if other != name}, self.limit)
        return text

    def set_limit(self, value):
        if type(value) is not int or not len(self.texts) <= value <= 200:
            raise BadNumber(value)
        self.change(f"limit {value}", self.texts, value)

    def exchange(self, head, fresh):
        others = sorted(name for name in fresh if fresh[name] != self.texts[name])
        self.change(" ".join([head, *others]), {**self.texts, **fresh}, self.limit)
        return tuple(others)

    def happen(self, head, misreading, names):
        fresh = {}
        for name in sorted(names):
            for at, letter in enumerate(self.texts[name]):
                if letter not in misreading:
                    raise Barred(at)
        for name in sorted(names):
            fresh[name] = "".join(misreading[letter] for letter in self.texts[name])
            if len(fresh[name]) > 2000:
                raise TooMany("signs", 2000)
        self.exchange(head, fresh)

    def misread(self, index, *names):
        if type(index) is not int or not 0 <= index < len(self.misreadings):
            raise BadNumber(index)
        for name in names:
            if type(name) is not str or name not in self.texts:
                raise NoName(name)
        self.happen(f"misread {index}", self.misreadings[index], set(names) or set(self.texts))

    def shift(self, misreading):
        if not isinstance(misreading, Misreading):
            raise BadTable("misreading")
        self.happen("read", misreading, set(self.texts))

    def repair(self):
        fresh = {name: repaired(self.misreadings, self.right, self.texts[name]) for name in sorted(self.texts)}
        return self.exchange("repair", fresh)

    def doubtful(self):
        return tuple(name for name in sorted(self.texts)
                     if len(right_ones(self.misreadings, self.right, self.texts[name])) != 1)

    def undo(self):
        if not self.past:
            raise Nothing()
        line, self.texts, self.limit = self.past.pop()


def outcome(call, *args):
    """What a call returns, or the kind and the fields of its error."""
    try:
        return call(*args)
    except RepairError as error:
        return type(error), list(vars(error).values())


def shifted(store, other):
    """A store with a misreading that has happened to all texts; the same object."""
    held = store
    store >>= other
    assert store is held


class RowsOfCallsTests(Checks, unittest.TestCase):

    def test_against_a_plain_dict_and_a_list(self):
        seen = {}
        for seed in range(40):
            chance = random.Random(seed)
            misreadings, right = next(some_cases(1100 + seed, 1, "abc", longest=2))
            right = right | Right.over("ab")
            limit = chance.choice([0, 1, 2, 3, 5])
            store, plain = Store(misreadings, right, limit=limit), Plain(misreadings, right, limit)
            for _ in range(120):
                name, args = self.drawn(chance, len(misreadings))
                if name == "shift":
                    found, expected = outcome(shifted, store, *args), outcome(plain.shift, *args)
                elif name == "limit":
                    found, expected = outcome(setattr, store, "limit", *args), outcome(plain.set_limit, *args)
                elif name == "[]":
                    found, expected = outcome(store.__setitem__, *args), outcome(plain.put, *args)
                else:
                    found, expected = outcome(getattr(store, name), *args), outcome(getattr(plain, name), *args)
                self.assertEqual(found, expected, (name, args))
                self.assertLike(told(store), plain.told())
                kind = found[0].__name__ if type(found) is tuple and found and isinstance(found[0], type) else "ok"
                seen[name, kind] = seen.get((name, kind), 0) + 1
        for each in [("put", "ok"), ("put", "TooMany"), ("put", "BadName"), ("put", "BadWord"), ("[]", "ok"), ("[]", "TooMany"),
                     ("drop", "ok"), ("drop", "NoName"), ("misread", "ok"), ("misread", "Barred"), ("misread", "NoName"),
                     ("misread", "BadNumber"), ("shift", "ok"), ("shift", "Barred"), ("shift", "BadTable"), ("repair", "ok"),
                     ("repair", "NoOrigin"), ("repair", "Several"), ("doubtful", "ok"), ("undo", "ok"), ("undo", "Nothing"),
                     ("set_limit", "ok"), ("set_limit", "BadNumber"), ("limit", "ok"), ("limit", "BadNumber")]:
            self.assertGreater(seen.get(each, 0), 2, (each, seen))

    def drawn(self, chance, size):
        """The name of a call with arguments."""
        names = ["a", "ab", "b", "name", "z", "abcdefgh"]
        texts = ["", "a", "b", "ab", "ba", "aab", "abab", "c", "cc", "d"]
        name = chance.choice(["put"] * 3 + ["[]"] * 3 + ["drop", "misread", "misread", "misread", "shift", "repair", "doubtful",
                                                         "undo", "undo", "set_limit", "limit"])
        if name in ("put", "[]"):
            return name, (chance.choice(names + ["", "A", 5]), chance.choice(texts + ["A", None]))
        if name == "drop":
            return name, (chance.choice(names + [None]),)
        if name == "misread":
            return name, (chance.choice([*range(size)] * 3 + [-1, size, True]),
                          *[chance.choice(names) for _ in range(chance.choice([0, 0, 1, 2]))])
        if name == "shift":
            return name, (chance.choice([READ("a:b b:a"), READ("a:ab b:b c:c"), READ("a:a b:b"), None]),)
        if name in ("set_limit", "limit"):
            return name, (chance.choice([0, 1, 2, 3, 4, 5, 6, 200, 201, None]),)
        return name, ()

    def test_undone_to_the_beginning(self):
        for seed in range(10):
            chance = random.Random(1200 + seed)
            store = Store([READ("a:b b:a"), READ("a:ab b:b")], Right.over("ab"))
            states = [told(store)]
            for _ in range(60):
                name, args = self.drawn(chance, 2)
                if name not in ("shift", "limit", "[]", "undo"):
                    outcome(getattr(store, name), *args)
                    if told(store) != states[-1]:
                        states.append(told(store))
            self.assertGreater(len(states), 6)
            for state in states[-2::-1]:
                self.assertIsNone(store.undo())
                self.assertLike(told(store), state)
            self.assertRaisesWith(Nothing, (), store.undo)
            self.assertLike(told(store), ({}, 40, (), 0))


class MakingTests(Checks, unittest.TestCase):

    def test_wrong_arguments_in_their_order(self):
        for value, at in wrong_lists():
            self.assertRaisesWith(BadList, (at,), Store, value, 5, limit=None)
        for value in values_but(lambda value: isinstance(value, Right)):
            self.assertRaisesWith(BadRight, ("right",), Store, [WIDE], value, limit=None)
        for value in [*values_but(lambda value: type(value) is int and 0 <= value <= 200), -1, 201, True, 1.0]:
            self.assertRaisesWith(BadNumber, (value,), Store, [WIDE], Right.over("ae"), limit=value)
        for value in (0, 1, 40, 200):
            self.assertLike(Store([WIDE], Right.over("ae"), limit=value).limit, value)
        self.assertLike(Store(misreadings=(WIDE,), right=Right.over("ae")).limit, 40)
        with self.assertRaises(TypeError):
            Store([WIDE], Right.over("ae"), 5)

    def test_first_there_is_none(self):
        store = Store([WIDE], Right.over("ae"))
        self.assertLike(told(store), ({}, 40, (), 0))
        self.assertEqual([list(store), list(store.between("a", "z")), store.doubtful(), store.repair(), store.misread(0)],
                         [[], [], (), (), None])
        self.assertLike(told(store), ({}, 40, (), 0))
        self.assertRaisesWith(Nothing, (), store.undo)

    def test_what_is_done_to_the_list_afterwards_changes_nothing(self):
        made = [WIDE, RING]
        store = Store(made, Right.over("ae"))
        made.pop()
        made[0] = RING
        store.put("a", "ab")
        store.misread(1)
        self.assertEqual(store["a"], "bc")
        self.assertRaisesWith(BadNumber, (2,), store.misread, 2)
        self.assertRaisesWith(Barred, (0,), store.misread, 0)

    def test_the_interface(self):
        for name in ("__init__", "__getitem__", "__setitem__", "put", "drop", "__len__", "__iter__", "__contains__", "between",
                     "limit", "set_limit", "misread", "__irshift__", "repair", "doubtful", "undo", "log", "trial", "tried"):
            self.assertIn(name, vars(Store))
        self.assertIs(type(vars(Store)["limit"]), property)
        self.assertIs(type(vars(Store)["log"]), property)


class NameTests(Checks, unittest.TestCase):

    def full(self, limit=3):
        store = Store([WIDE], Right.over("ae"), limit=limit)
        for name, text in (("two", "ea"), ("one", "ae"), ("x", "")):
            store[name] = text
        return store

    def test_put_and_get(self):
        store = self.full()
        self.assertEqual([store["one"], store["two"], store["x"]], ["ae", "ea", ""])
        self.assertEqual(list(store), ["one", "two", "x"])
        self.assertEqual(len(store), 3)
        self.assertIsNone(store.put(name="one", text="a" * 2000))
        self.assertEqual(len(store["one"]), 2000)
        store["one"] = "zzz"
        self.assertEqual(store["one"], "zzz")

    def test_any_value_as_a_name_that_is_none(self):
        store = self.full()
        before = told(store)
        for value in [*any_values(), "on", "onee", "ONE", ("one",), ["one"]]:
            self.assertIs(value in store, False)
            self.assertRaisesWith(NoName, (value,), store.__getitem__, value)
            self.assertRaisesWith(NoName, (value,), store.drop, value)
            self.assertRaisesWith(NoName, (value,), store.misread, 0, value)
            self.assertRaisesWith(NoName, (value,), store.misread, 0, "one", value, 5)
        self.assertIs("one" in store, True)
        self.assertLike(told(store), before)

    def test_wrong_names_and_texts(self):
        store = self.full()
        before = told(store)
        for value in [*values_but(is_name), "", "abcdefghi", "a" * 2001]:
            for text in ("a", 5, None):
                self.assertRaisesWith(BadName, (value,), store.put, value, text)
                self.assertRaisesWith(BadName, (value,), store.__setitem__, value, text)
            self.assertRaisesWith(BadName, (value,), lambda: list(store.between(value, 5)))
            self.assertRaisesWith(BadName, (value,), lambda: next(store.between("a", value)))
        for value in [*values_but(is_text), "a" * 2001]:
            for name in ("one", "new"):
                self.assertRaisesWith(BadWord, (value,), store.put, name, value)
                self.assertRaisesWith(BadWord, (value,), store.__setitem__, name, value)
        self.assertLike(told(store), before)

    def test_one_name_too_many(self):
        for limit in range(3, 6):
            store = self.full(limit)
            for name in "abcde"[:limit - 3]:
                store.put(name, "a")
            before = told(store)
            self.assertRaisesWith(TooMany, ("names", limit), store.put, "new", "a")
            self.assertRaisesWith(TooMany, ("names", limit), store.__setitem__, "new", "a")
            self.assertLike(told(store), before)
            store.put("one", "new")
            store.drop("one")
            store.put("new", "a")
            self.assertEqual(len(store), limit)
        self.assertRaisesWith(TooMany, ("names", 0), Store([WIDE], Right.over("a"), limit=0).put, "a", "a")
        store = Store([WIDE], Right.over("a"), limit=200)
        for at in range(200):
            store.put("abcdefghijklmnopqrst"[at // 10] + "abcdefghij"[at % 10], "a")
        self.assertRaisesWith(TooMany, ("names", 200), store.put, "new", "a")

    def test_drop(self):
        store = self.full()
        self.assertEqual([store.drop("x"), store.drop(name="one"), list(store)], ["", "ae", ["two"]])
        self.assertRaisesWith(NoName, ("one",), store.drop, "one")
        self.assertEqual(store.log[3:], ("drop x", "drop one"))
        store.undo()
        self.assertEqual(list(store), ["one", "two"])

    def test_between(self):
        store = Store([WIDE], Right.over("ae"))
        for name in ("d", "b", "bb", "a", "ca", "e"):
            store.put(name, "a")
        for first, last, expected in (("a", "z", "a b bb ca d e"), ("b", "d", "b bb ca d"), ("ba", "cz", "bb ca"), ("d", "b", ""),
                                      ("e", "e", "e"), ("f", "z", ""), ("b", "b", "b"), ("baz", "bbb", "bb"), ("a", "a", "a")):
            self.assertEqual(list(store.between(first=first, last=last)), expected.split())
        walk = store.between("a", "z")
        self.assertEqual(next(walk), "a")
        store.drop("b")
        store.put("bz", "a")
        self.assertEqual(list(walk), ["b", "bb", "ca", "d", "e"])
        walk = store.between("a", "z")
        store.drop("a")
        self.assertEqual(list(walk), ["bb", "bz", "ca", "d", "e"])

    def test_iterated_while_it_is_changed(self):
        store = self.full()
        for name in store:
            store.drop(name)
        self.assertEqual(len(store), 0)
        for _ in range(6):
            store.undo()
        self.assertEqual(len(store), 0)
        store = self.full()
        found = []
        for name in store:
            found.append(name)
            store.set_limit(len(store) + 1)
            store.put("y" + name, "a")
        self.assertEqual(found, ["one", "two", "x"])
        names = list(store)
        names.clear()
        self.assertEqual(len(store), 6)

    def test_limits(self):
        store = self.full()
        for value in [*values_but(lambda value: type(value) is int and 3 <= value <= 200), 2, 201, True]:
            before = told(store)
            self.assertRaisesWith(BadNumber, (value,), store.set_limit, value)
            self.assertRaisesWith(BadNumber, (value,), setattr, store, "limit", value)
            self.assertLike(told(store), before)
        log = store.log
        store.limit = 3
        self.assertIsNone(store.set_limit(3))
        self.assertEqual(store.log, log)
        store.limit = 200
        self.assertIsNone(store.set_limit(value=4))
        self.assertLike((store.limit, store.log[3:]), (4, ("limit 200", "limit 4")))
        store.limit += 1
        self.assertLike(store.limit, 5)
        for limit in (4, 200, 3):
            store.undo()
            self.assertLike(store.limit, limit)


class MisreadTests(Checks, unittest.TestCase):

    def store(self):
        store = Store([WIDE, RING], Right.over("ae"))
        for name, text in (("b", "ae"), ("a", "aa"), ("c", "e")):
            store.put(name, text)
        return store

    def test_names_once_each(self):
        store = self.store()
        self.assertIsNone(store.misread(0, "b", "b", "c", "b"))
        self.assertEqual([store[name] for name in store], ["aa", "axc", "xc"])
        self.assertEqual(store.log[3:], ("misread 0 b c",))
        store.misread(0, "c", "a", "b")
        self.assertEqual([store[name] for name in store], ["aa", "axfc", "xfc"])
        self.assertEqual(store.log[3:], ("misread 0 b c", "misread 0 b c"))
        store.misread(0)
        self.assertEqual(store.log[5:], ("misread 0 b c",))
        store.misread(0, "a")
        self.assertEqual(len(store.log), 6)
        store.misread(1, "a")
        self.assertEqual((store["a"], store.log[6:]), ("bb", ("misread 1 a",)))
        store.drop("b"), store.drop("c"), store.undo(), store.misread(0, "c")
        self.assertEqual(store.log[7:], ("drop b", "misread 0 c"))

    def test_errors_in_their_order(self):
        store = self.store()
        before = told(store)
        for value in [*values_but(lambda value: type(value) is int and 0 <= value <= 1), -1, 2, True, False, 1.0]:
            self.assertRaisesWith(BadNumber, (value,), store.misread, value)
            self.assertRaisesWith(BadNumber, (value,), store.misread, value, "no", 5)
        self.assertRaisesWith(NoName, (5,), store.misread, 1, "b", 5, "no")
        self.assertRaisesWith(NoName, ("no",), store.misread, 1, "no", 5)
        # Names ascending: of a, b and c, b is the first one with a barred letter.
        self.assertRaisesWith(Barred, (1,), store.misread, 1)
        self.assertRaisesWith(Barred, (0,), store.misread, 1, "c", "a")
        self.assertRaisesWith(Barred, (1,), store.misread, 1, "c", "b")
        self.assertLike(told(store), before)

    def test_barred_is_ahead_of_a_text_that_is_too_long(self):
        store = Store([WIDE], Right.over("ae"))
        store.put("a", "e" * 1001)
        self.assertRaisesWith(TooMany, ("signs", 2000), store.misread, 0)
        store.put("b", "aaz")
        before = told(store)
        self.assertRaisesWith(Barred, (2,), store.misread, 0)
        self.assertRaisesWith(TooMany, ("signs", 2000), store.misread, 0, "a")
        self.assertRaisesWith(Barred, (2,), shifted, store, WIDE)
        self.assertLike(told(store), before)
        store.put("a", "e" * 1000)
        store.misread(0, "a")
        self.assertEqual(len(store["a"]), 2000)

    def test_read_with_a_misreading(self):
        store = self.store()
        held = store
        store >>= WIDE
        self.assertIs(store, held)
        self.assertEqual([store[name] for name in store], ["aa", "axc", "xc"])
        self.assertEqual(store.log[3:], ("read b c",))
        for value in values_but(lambda value: isinstance(value, Misreading)) + [store, [WIDE]]:
            before = told(store)
            self.assertRaisesWith(BadTable, ("misreading",), shifted, store, value)
            self.assertLike(told(store), before)
        # Any misreading can happen, also one that is not in the list.
        store >>= READ("a:aa c:c x:x")
        self.assertEqual([store[name] for name in store], ["aaaa", "aaxc", "xc"])
        store >>= Misreading.same("acx")
        self.assertEqual(store.log[3:], ("read b c", "read a b"))
        self.assertRaisesWith(Barred, (0,), shifted, store, RING.only("bc"))
        self.assertRaisesWith(Barred, (2,), shifted, store, RING.only("ac"))

    def test_an_empty_store(self):
        store = Store([WIDE], Right.over("ae"))
        self.assertIsNone(store.misread(0))
        store >>= Misreading({})
        self.assertRaisesWith(BadNumber, (1,), store.misread, 1)
        self.assertRaisesWith(NoName, ("a",), store.misread, 0, "a")
        self.assertEqual(store.log, ())


class RepairTests(Checks, unittest.TestCase):

    def test_none_one_and_several(self):
        store = Store([READ("c:c e:xc f:f x:xf")], Right.words("e", "xc", "c"))
        store.put("b", "c")
        store.put("a", "xfc")
        self.assertEqual(store.doubtful(), ("a",))
        before = told(store)
        self.assertRaisesWith(Several, ("xc", "e"), store.repair)
        store.put("c", "xx")
        self.assertEqual(store.doubtful(), ("a", "c"))
        self.assertRaisesWith(Several, ("xc", "e"), store.repair)
        store.put("a", "ff")
        self.assertRaisesWith(NoOrigin, ("ff",), store.repair)
        store.drop("a")
        self.assertRaisesWith(NoOrigin, ("xx",), store.repair)
        store.put("c", "e")
        self.assertEqual([store.repair(), store.doubtful()], [(), ()])
        self.assertEqual(store.log, before[2] + ("put c", "put a", "drop a", "put c"))

    def test_the_names_whose_texts_became_others(self):
        store = Store([WIDE], Right.over("ae"))
        for name, text in (("d", "axc"), ("b", "aa"), ("c", "xffc"), ("a", "xc"), ("e", "")):
            store.put(name, text)
        self.assertLike(store.repair(), ("a", "c", "d"))
        self.assertEqual([store[name] for name in store], ["e", "aa", "e", "ae", ""])
        self.assertEqual(store.log[5:], ("repair a c d",))
        self.assertLike(store.repair(), ())
        self.assertEqual(len(store.log), 6)
        store.undo()
        self.assertEqual([store[name] for name in store], ["xc", "aa", "xffc", "axc", ""])

    def test_too_many(self):
        store = Store([FIVE_HUNDRED], Right.words("a"))
        store.put("b", "c" * 40)
        self.assertRaisesWith(TooMany, ("texts", 500), store.doubtful)
        self.assertRaisesWith(TooMany, ("texts", 500), store.repair)
        # The first name by its order decides which error is raised.
        store.put("a", "zz")
        self.assertRaisesWith(NoOrigin, ("zz",), store.repair)
        self.assertRaisesWith(TooMany, ("texts", 500), store.doubtful)
        store.put("c", "zz")
        store.put("a", "a")
        self.assertRaisesWith(TooMany, ("texts", 500), store.repair)

    def test_drawn_stores_are_those_of_which_their_texts_come(self):
        many = 0
        for misreadings, right in some_cases(1131, 60, "abc", longest=2):
            chance = random.Random(1131)
            store = Store(misreadings, right)
            texts = list(right.texts(3))
            for name in "abc":
                if texts:
                    store.put(name, chance.choice(texts))
            first = {name: store[name] for name in store}
            for _ in range(3):
                outcome(store.misread, chance.randrange(len(misreadings)))
            try:
                doubtful = store.doubtful()
            except TooMany:
                continue
            if not doubtful:
                store.repair()
                self.assertEqual({name: store[name] for name in store}, first)
                many += 1
        self.assertGreater(many, 20)


class LogTests(Checks, unittest.TestCase):

    def test_word_for_word(self):
        store = Store([WIDE, RING], Right.over("ae"), limit=9)
        store.put("one", "ae")
        store["two"] = "e"
        store["abcdefgh"] = ""
        store.put("one", "ae")
        store.misread(0)
        store.misread(0, "two", "one")
        store >>= WIDE
        store.limit = 9
        store.limit = 12
        store.repair()
        store.misread(1, "abcdefgh")
        store.drop("two")
        self.assertLike(store.log, ("put one", "put two", "put abcdefgh", "misread 0 one two", "misread 0 one two",
                                    "read one two", "limit 12", "repair one two", "drop two"))
        store.undo()
        store.undo()
        self.assertEqual(store.log[-1], "limit 12")
        self.assertEqual([store["one"], store["two"], store.limit], ["axffc", "xffc", 12])
        store.drop("one")
        self.assertEqual(store.log[-2:], ("limit 12", "drop one"))

    def test_the_log_cannot_be_set(self):
        store = Store([WIDE], Right.over("ae"))
        with self.assertRaises(AttributeError):
            store.log = ()

    def test_calls_that_change_nothing_are_no_change(self):
        store = Store([Misreading.same("ab"), READ("a:b")], Right.over("a"))
        store.put("x", "ab")
        for call in (lambda: store.put("x", "ab"), lambda: store.misread(0), lambda: store.misread(0, "x"),
                     lambda: store.set_limit(40), lambda: store.doubtful(), lambda: list(store.between("a", "z")),
                     lambda: "x" in store, lambda: store.log, lambda: store.tried(len)):
            call()
            self.assertEqual(store.log, ("put x",))
        store.undo()
        self.assertRaisesWith(Nothing, (), store.undo)

    def test_many_changes(self):
        store = Store([WIDE], Right.over("ae"))
        for at in range(3000):
            store.put("a", "ab"[at % 2])
        self.assertEqual(len(store.log), 3000)
        for _ in range(3000):
            store.undo()
        self.assertRaisesWith(Nothing, (), store.undo)


class TrialTests(Checks, unittest.TestCase):

    def store(self):
        store = Store([WIDE], Right.over("ae"), limit=5)
        store.put("a", "ae")
        store.put("b", "e")
        store.undo()
        return store

    def change(self, store):
        store.put("c", "aaa")
        store.misread(0)
        store.drop("a")
        store.limit = 7
        store >>= WIDE
        store.put("c", "e")

    def test_behind_the_block_all_is_as_it_was(self):
        store = self.store()
        before = told(store)
        with store.trial() as held:
            self.assertIs(held, store)
            self.assertLike(told(held), before)
            self.change(held)
            self.assertEqual((store["c"], store.limit, len(store.log)), ("e", 7, 6))
        self.assertLike(told(store), before)
        self.assertIsNone(store.undo())
        self.assertRaisesWith(Nothing, (), store.undo)

    def test_what_is_undone_in_the_block(self):
        store = self.store()
        before = told(store)
        with store.trial():
            store.undo()
            self.assertRaisesWith(Nothing, (), store.undo)
            store.put("z", "a")
        self.assertLike(told(store), before)
        store.undo()
        self.assertEqual(len(store), 0)

    def test_an_error_goes_on(self):
        store = self.store()
        before = told(store)
        for kind in (KeyError, NoName, ZeroDivisionError):
            with self.assertRaises(kind):
                with store.trial():
                    self.change(store)
                    raise kind("x")
            self.assertLike(told(store), before)
        with self.assertRaises(NoName):
            with store.trial() as held:
                self.change(held)
                held.drop("none")
        self.assertLike(told(store), before)

    def test_trials_within_trials(self):
        store = self.store()
        before = told(store)
        with store.trial():
            store.put("d", "a")
            middle = told(store)
            with store.trial() as held:
                self.change(held)
                with held.trial():
                    held.put("c", "")
                self.assertEqual(store["c"], "e")
            self.assertLike(told(store), middle)
            with self.assertRaises(KeyError):
                with store.trial():
                    store.undo()
                    raise KeyError("x")
            self.assertLike(told(store), middle)
            store.undo()
            self.assertLike(told(store), before)
        self.assertLike(told(store), before)

    def test_the_same_trial_again_and_within_itself(self):
        store = self.store()
        trial = store.trial()
        store.put("d", "a")
        before = told(store)
        for _ in range(2):
            with trial:
                self.change(store)
                middle = told(store)
                with trial as held:
                    self.assertIs(held, store)
                    store.put("e", "a")
                self.assertLike(told(store), middle)
            self.assertLike(told(store), before)
        store.drop("d")
        with trial:
            store.put("f", "a")
        self.assertEqual(list(store), ["a"])

    def test_tried(self):
        store = self.store()
        before = told(store)

        def work(held):
            self.assertIs(held, store)
            self.change(held)
            return told(held)
        found = store.tried(work)
        self.assertEqual(found[0]["c"], "e")
        self.assertLike(told(store), before)
        self.assertEqual(store.tried(work=lambda held: held.doubtful()), ())
        self.assertIs(store.tried(lambda held: held), store)
        for kind in (KeyError, Barred):
            def failing(held):
                self.change(held)
                raise kind(1)
            with self.assertRaises(kind):
                store.tried(failing)
            self.assertLike(told(store), before)
        self.assertEqual(store.tried(lambda held: held.tried(work)), found)
        self.assertLike(told(store), before)


if __name__ == "__main__":
    unittest.main()
