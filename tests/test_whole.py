"""What one part of the program promises of another one."""

import itertools
import random
import unittest

from blindrepair.alike import alike
from blindrepair.codes import ReadTable, WriteTable, misread_by, reread, written
from blindrepair.desk import Desk
from blindrepair.effects import effect_of
from blindrepair.errors import BadText, Several, TooMany
from blindrepair.fixers import Fixer
from blindrepair.given_up import given_up
from blindrepair.look_origins import shows_origin
from blindrepair.look_sound import shows_sound
from blindrepair.look_verdicts import shows_verdict
from blindrepair.lost import ever_lost, lost, shows_lost
from blindrepair.marks import least_mark, shows_mark
from blindrepair.merging import merging, shows_merging
from blindrepair.misreadings import Misreading
from blindrepair.mixed import mixed
from blindrepair.numbers import numbers_of, settles, turned_by
from blindrepair.origins import origins, repaired, right_ones
from blindrepair.powers import Powers
from blindrepair.reader import read, read_fixer, read_misreadings, read_right, read_table
from blindrepair.repairs import Undoing
from blindrepair.rights import Right
from blindrepair.rows import along
from blindrepair.sound import sound
from blindrepair.stores import Store
from blindrepair.texts import write_fixer, write_misreadings, write_right, write_table
from blindrepair.verdicts import decide
from tests.helpers import Checks, texts
from tests.plain_effects import image_along, some_cases

WRITE = WriteTable({"a": (97,), "e": (195, 169), "x": (195, 131), "c": (169,), "f": (131,)})
TABLE = ReadTable({97: "a", 195: "x", 169: "c", 131: "f"})


def drawn_tables(chance):
    """A writer and a reader of a few letters and integers."""
    letters = "abcd"
    codes = {letter: tuple(chance.randrange(6) for _ in range(chance.choice([1, 1, 2]))) for letter in letters}
    return WriteTable(codes), ReadTable({number: chance.choice(letters) for number in range(6) if chance.random() < 0.9})


class WholeTests(Checks, unittest.TestCase):

    def test_from_tables_to_a_repaired_store(self):
        write, table = read(write_table(WRITE)), read(write_table(TABLE))
        self.assertTrue(write == WRITE and table == TABLE)
        wrong = misread_by(write, table)
        self.assertEqual(str(wrong), "a:a c:c e:xc f:f x:xf")
        self.assertTrue(read_misreadings(write_misreadings([wrong]))[0] == wrong)
        self.assertTrue(misread_by(written(wrong, table), table) == wrong)
        right = read_right(write_right(Right.over("ae")))
        self.assertIs(bool(sound([wrong])), True)
        verdict = decide([wrong], right)
        self.assertIs(bool(verdict), True)
        self.assertIs(shows_verdict([wrong], right, verdict), True)
        store = Store([wrong], right)
        for name, text in (("one", "ae"), ("two", "eea"), ("three", "")):
            store[name] = text
        first = {name: store[name] for name in store}
        store.misread(0)
        store.misread(0, "two", "three")
        store >>= wrong
        self.assertEqual(store["one"], reread(reread("ae", write, table), write, table))
        fixer = read_fixer(write_fixer(Fixer.of(wrong)))
        for name in store:
            self.assertEqual(fixer(store[name]), first[name])
            self.assertEqual(Undoing(wrong)(store[name]), first[name])
            self.assertEqual(repaired([wrong], right, store[name]), first[name])
        self.assertEqual(store.doubtful(), ())
        self.assertEqual(store.repair(), ("one", "two"))
        self.assertEqual({name: store[name] for name in store}, first)

    def test_drawn_tables(self):
        chance = random.Random(1501)
        many = 0
        for _ in range(150):
            write, table = drawn_tables(chance)
            wrong = misread_by(read_table(write_table(write)), read_table(write_table(table)))
            self.assertTrue(wrong == misread_by(write, table))
            if wrong == Misreading({}):
                continue
            right = Right.over("".join(chance.sample("abcd", 2)))
            if not merging(wrong) or not decide([wrong], right):
                continue
            undoing = Undoing(wrong)
            store = Store([wrong], right)
            for text in right.texts(2):
                if all(letter in wrong for letter in text):
                    store.put("n" + text, text)
            first = {name: store[name] for name in store}
            for _ in range(2):
                if all(letter in wrong for name in store for letter in store[name]):
                    store.misread(0)
            self.assertEqual(store.doubtful(), ())
            self.assertEqual([undoing.until(store[name], right) for name in store], list(first.values()))
            many += len(store.repair())
            self.assertEqual({name: store[name] for name in store}, first)
        self.assertGreater(many, 20)

    def test_numbers_against_decide_and_powers(self):
        results = set()
        for misreadings, right in some_cases(1502, 200, "abc", misreadings=1):
            misreading = misreadings[0]
            numbers, verdict, powers = numbers_of(misreading, right), decide(misreadings, right), Powers(misreading, right)
            self.assertEqual(bool(numbers), not verdict)
            if not verdict:
                self.assertEqual(next(iter(numbers.walk())), len(verdict.row))
                self.assertEqual(turned_by(misreading, right, len(verdict.row)), verdict.text)
            for k in range(1, 6):
                text = turned_by(misreading, right, k)
                self.assertEqual(text is not None, k in numbers)
                if text is not None:
                    self.assertIs(powers.turns(text, k), True)
                    self.assertTrue(powers(k) == effect_of(misreadings, right, (0,) * k))
                results.add(k in numbers)
            if merging(misreading):
                self.assertIs(settles(misreading, right, 1), bool(verdict))
                self.assertIs(bool(ever_lost(misreading, right)), True)
        self.assertEqual(results, {True, False})

    def test_if_sound_and_calm_there_is_one_right_text_behind_each(self):
        """The main statement [7], by all short texts."""
        results = set()
        for misreadings, right in some_cases(1503, 200, "abc", misreadings=2):
            try:
                found, verdict = sound(misreadings), decide(misreadings, right)
            except TooMany:
                continue
            self.assertIs(shows_sound(misreadings, found), True)
            if not found:
                continue
            several = False
            for text in texts("abc", 3):
                ones = right_ones(misreadings, right, text)
                several = several or len(ones) > 1
                for each in ones:
                    self.assertIs(shows_origin(misreadings, text, each.row, each.text), True)
                    self.assertEqual(along(misreadings, each.text, each.row), text)
                if len(ones) > 1:
                    self.assertRaisesWith(Several, (ones[0].text, ones[1].text), repaired, misreadings, right, text)
            if verdict:
                self.assertIs(several, False)
            elif len(image_along(misreadings, verdict.row, verdict.text)) <= 3:
                self.assertIs(several, True)
            results.add((bool(verdict), several))
        self.assertTrue({(True, False), (False, True)} <= results, results)

    def test_what_is_one_to_one_loses_nothing_and_what_is_lost_is_not_one_to_one(self):
        for misreadings, right in some_cases(1504, 200, "abc", misreadings=1):
            found = merging(misreadings[0])
            self.assertIs(shows_merging(misreadings[0], found), True)
            try:
                ever = ever_lost(misreadings[0], right)
            except TooMany:
                continue
            if not ever:
                self.assertIs(bool(found), False)
            if not found and found.one in right and found.other in right:
                self.assertIs(bool(lost(misreadings[0], right, 1)), False)
                self.assertEqual(ever.number, 1)
            self.assertIs(shows_lost(misreadings[0], right, ever), True)

    def test_given_up_and_marks_make_stores_safe(self):
        many = 0
        for misreadings, right in some_cases(1505, 80, "abc", misreadings=2):
            try:
                kept = given_up(misreadings, right).kept
            except TooMany:
                continue
            safe = right & Right.over(kept)
            self.assertIs(bool(decide(misreadings, safe)), True)
            if not sound(misreadings):
                continue
            store = Store(misreadings, safe)
            for text in safe.texts(2):
                store.put("t" + text, text)
            chance = random.Random(1505)
            for name in store:
                at = chance.randrange(len(misreadings))
                if all(letter in misreadings[at] for letter in store[name]):
                    store.misread(at, name)
                    many += 1
            self.assertEqual(store.doubtful(), ())
        self.assertGreater(many, 20)
        wide = Misreading.read("a:a c:c e:xc f:f x:xf")
        mark = least_mark([wide], "acefx", 3)
        self.assertIs(shows_mark([wide], "acefx", mark), True)
        store = Store([wide], Right.over("acefx").ahead(mark))
        for at, text in enumerate(texts("ex", 2)):
            store.put("abcdefg"[at], mark + text)
        store.misread(0)
        store.misread(0)
        self.assertEqual(store.doubtful(), ())

    def test_mixed_by_counts_of_one_misreading(self):
        """If texts are told back however often each letter was misread, the misreading loses none of them."""
        for misreadings, _ in some_cases(1506, 150, "abc", misreadings=1):
            for letters, most in itertools.product(("a", "ab", "abc"), (1, 2)):
                try:
                    if mixed(misreadings[0], letters, most):
                        for number in range(1, most + 1):
                            self.assertIs(bool(lost(misreadings[0], Right.over(letters), number)), True)
                except TooMany:
                    pass

    def test_alike_misreadings_make_the_same_stores(self):
        one, other = Misreading.read("a:xyx b:y"), Misreading.read("a:x b:yxy")
        right = Right.words("ab", "abab", "")
        self.assertIs(bool(alike(one, other, right)), True)
        stores = [Store([each], right) for each in (one, other)]
        for store in stores:
            for at, text in enumerate(right.texts(4)):
                store.put("abc"[at], text)
            store.misread(0)
        self.assertEqual([stores[0][name] for name in stores[0]], [stores[1][name] for name in stores[1]])

    def test_a_desk_says_what_the_functions_tell(self):
        for misreadings, right in some_cases(1507, 120, "abc", misreadings=3):
            desk = Desk()
            for name, misreading in zip("pqs", misreadings):
                desk.say(f"misreading {name} {misreading}")
                self.assertTrue(Misreading.read(desk.say(f"show {name}")) == misreading)
            names = " ".join("pqs"[:len(misreadings)])
            self.assertEqual(desk.say(f"sound {names}"), "sound" if sound(misreadings) else "unsound")
            words = list(right.texts(2))
            if not words:
                continue
            some = Right.words(*words)
            desk.say("words r " + " ".join(word or "-" for word in words))
            self.assertTrue(read_right("right\n" + desk.say("show r")) == some)
            try:
                verdict = decide(misreadings, some)
            except TooMany:
                self.assertEqual(desk.say(f"decide r {names}"), "refused TooMany")
                continue
            answer = desk.say(f"decide r {names}").split(" ")
            self.assertEqual(answer[0], "calm" if verdict else "clash")
            if not verdict:
                row = tuple(int(word) for word in answer[2:])
                self.assertEqual((answer[1], row), (verdict.text, verdict.row))

    def test_origins_of_what_a_store_keeps(self):
        twice = Misreading.read("c:c e:xc f:f x:xf")
        store = Store([twice], Right.words("e", "c"))
        store.put("a", "e")
        store.misread(0)
        store.misread(0)
        found = list(origins([twice], store["a"]))
        self.assertEqual([each.text for each in found], ["xfc", "xc", "e"])
        for each in found:
            store.undo()
            self.assertEqual(along([twice], each.text, each.row), "xfc")
        self.assertEqual(len(store), 0)

    def test_what_cannot_be_read_is_told_by_its_place(self):
        text = write_misreadings([Misreading.read("a:b"), Misreading.read("a:a c:c")])
        self.assertRaisesWith(BadText, (2, 2), read, text + " d")
        self.assertRaisesWith(BadText, (3, 0), read, text + "\n")


if __name__ == "__main__":
    unittest.main()
