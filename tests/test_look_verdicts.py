import random
import unittest

from blindrepair.errors import BadList, BadRight, TooMany
from blindrepair.look_verdicts import shows_verdict
from blindrepair.misreadings import Misreading
from blindrepair.rights import Right
from blindrepair.verdicts import Calm, Clash, Entry, decide
from tests.helpers import Checks, any_values, like, texts, values_but, wrong_lists
from tests.plain_effects import image_along, is_right, plain_effect, plain_pairs, rows, some_cases, step_ahead

READ = Misreading.read
WRONG, GOOD = READ("a:a c:yc e:xc n:n x:xf"), Right.over("ane")


def is_index(value, size):
    return type(value) is int and 0 <= value < size


def plain_shows(misreadings, right, entries):
    """Whether a Calm of any value is right: the document's words one by one, in a second way."""
    if type(entries) is not tuple or len(entries) not in range(1, 301) or any(type(each) is not Entry for each in entries):
        return False
    if entries[0].first is not None or entries[0].parent is not None:
        return False
    made = [plain_effect(misreadings, right, ())]
    for at, entry in enumerate(entries):
        if at > 0:
            if not is_index(entry.first, len(misreadings)) or not is_index(entry.parent, at):
                return False
            made.append(step_ahead(made[entry.parent], misreadings[entry.first]))
    for plain, entry in zip(made, entries):
        if type(entry.nexts) is not tuple or len(entry.nexts) != len(misreadings):
            return False
        for number, misreading in zip(entry.nexts, misreadings):
            if not is_index(number, len(entries)) or made[number] != step_ahead(plain, misreading):
                return False
        if not plain_closed(right, plain, entry.pairs):
            return False
    return True


def plain_closed(right, plain, pairs):
    size = len(right.standings)
    if type(pairs) is not tuple or not any(like(triple, (0, 0, False)) for triple in pairs):
        return False
    for triple in pairs:
        if type(triple) is not tuple or len(triple) != 3 or type(triple[2]) is not bool:
            return False
        if not is_index(triple[0], size) or not is_index(triple[1], size):
            return False
    for p, q, changed in pairs:
        if changed and right.standings[p][1] and right.standings[q][1]:
            return False
        for letter, to in right.standings[p][0]:
            if plain[letter] is not None and plain[letter][0][q] is not None:
                if (to, plain[letter][0][q], changed or plain[letter][1] != letter) not in pairs:
                    return False
    return True


def plain_clash_by(misreadings, right, text, row):
    """Whether a row turns a right text into another one, by the plain effect of the row."""
    plain = plain_effect(misreadings, right, ())
    for index in row[::-1]:
        plain = step_ahead(plain, misreadings[index])
    if any(plain[letter] is None for letter in text):
        return False
    at = 0
    for letter in text:
        at = plain[letter][0][at] if at is not None else None
    return at is not None and right.standings[at][1] and any(plain[letter][1] != letter for letter in text)


def copy_of(entries):
    return [[entry.first, entry.parent, entry.nexts, entry.pairs] for entry in entries]


def calm_of(fields):
    return Calm(tuple(Entry(*each) for each in fields))


def some_calms(seed, many, most=40):
    """Lists, right sets and the entries of their Calms, with more than one effect."""
    for misreadings, right in some_cases(seed, many, "abc"):
        try:
            found = decide(misreadings, right)
        except TooMany:
            continue
        if found and 1 < len(found.entries) <= most:
            yield misreadings, right, found.entries


class ClashTests(Checks, unittest.TestCase):

    def test_all_short_texts_and_rows(self):
        results = set()
        for misreadings, right in some_cases(401, 60, "abc"):
            for row in rows(len(misreadings), 2):
                for text in texts("abc", 3):
                    image = image_along(misreadings, row, text)
                    expected = bool(row and is_right(right, text) and image not in (None, text) and is_right(right, image))
                    self.assertIs(shows_verdict(misreadings, right, Clash(text, row)), expected)
                    results.add((len(row), expected))
        self.assertEqual(len(results), 5)

    def test_clashes_that_are_not_the_least(self):
        more = Right.over("anexc")
        for text, row in (("ae", (0,)), ("e" * 1000, (0,)), ("eee", (0,)), ("nnena", (0,))):
            self.assertIs(shows_verdict([WRONG], more, Clash(text, row)), True)
        turn = READ("a:b b:c c:a")
        for row, right in (((0,), True), ((0,) * 4, True), ((0,) * 2, False), ((0,) * 3, False), ((0,) * 2998, True)):
            self.assertIs(shows_verdict([turn], Right.words("a", "b"), Clash("a", row)), right)

    def test_spoilt_texts(self):
        more = Right.over("anexc")
        for value in [*any_values(), "x", "axf", "z", "ax", "ac", "anx", "e" * 2001, ["e"], ("e",), "y"]:
            self.assertIs(shows_verdict([WRONG], more, Clash(value, (0,))), False)
        # The text is not right, but its image is.
        self.assertIs(shows_verdict([READ("a:b b:b")], Right.words("b"), Clash("a", (0,))), False)
        # The image is right and it is the same text.
        self.assertIs(shows_verdict([READ("a:b b:b")], Right.words("b"), Clash("b", (0,))), False)

    def test_spoilt_rows(self):
        made, right = [READ("a:b b:c"), READ("b:a c:c")], Right.words("a", "b", "c")
        for row, expected in (((0,), True), ((0, 0), True), ((0, 1), False), ((0, 0, 1), True), ((), False), ([0], False),
                              ((1,), False), ((0, 0, 0), False), ((-1,), False), ((-2,), False), ((2,), False),
                              ((0, 2), False), ((False,), False), ((0, False), False), ((True,), False), (0, False),
                              (((0,),), False), ("0", False), ((0, None), False), ((0, "0"), False), ({0: 0}, False),
                              ((0, [0]), False), (None, False)):
            self.assertIs(shows_verdict(made, right, Clash("a", row)), expected, row)
        for value in any_values():
            self.assertIs(shows_verdict(made, right, Clash("a", value)), like(value, (0,)))
            self.assertIs(shows_verdict(made, right, Clash("a", (0, 0, value))), like(value, 1))
            self.assertIs(shows_verdict(made, right, Clash("a", (value,))), like(value, 0))

    def test_barred_on_the_way(self):
        # The second misreading bars what the first one makes; a third one would make a right text of it.
        made = [READ("a:b"), READ("a:a"), READ("b:c")]
        right = Right.words("a", "c")
        self.assertIs(shows_verdict(made, right, Clash("a", (0, 2))), True)
        self.assertIs(shows_verdict(made, right, Clash("a", (0, 1, 2))), False)
        self.assertIs(shows_verdict(made, right, Clash("a", (1, 0, 2))), True)

    def test_images_of_more_than_2000_letters(self):
        four, over = READ("a:aaaa"), Right.over("a")
        for text, row, expected in (("a", (0,) * 5, True), ("a", (0,) * 6, True), ("a" * 500, (0,), True),
                                    ("a" * 501, (0,), True), ("a" * 2000, (0,), True), ("a" * 2001, (0,), False),
                                    ("a", (0,) * 2999, True), ("a" * 126, (0, 0), True), ("", (0,) * 2999, False)):
            self.assertIs(shows_verdict([four], over, Clash(text, row)), expected)
        for made in ([four, READ("a:b")], [four, READ("a:b b:a")]):
            for text in ("a" * 500, "a" * 501, "a" * 2000):
                self.assertIs(shows_verdict(made, Right.over("ab"), Clash(text, (0, 1))), True)
                self.assertIs(shows_verdict(made, Right.over("a"), Clash(text, (0, 1))), False)
                self.assertIs(shows_verdict(made, Right.over("ab"), Clash(text, (0, 1, 0))), False)

    def test_long_images_on_the_way(self):
        # Right is what has one letter a more than a multiple of 3, and behind the first misreading none is right.
        three, turn = READ("a:aaa b:b"), READ("a:b b:a")
        thirds = Right(({"a": 1, "b": 0}, False), ({"a": 2, "b": 1}, True), ({"a": 0, "b": 2}, False))
        for many in (1, 6, 7, 8, 100):
            for text, expected in (("ab", True), ("a", False), ("abb", False), ("babbb", True), ("b", False)):
                self.assertIs(shows_verdict([three, turn], thirds, Clash(text, (0,) * many)), False)
                self.assertIs(shows_verdict([three, turn], thirds, Clash(text, (0,) * many + (1,))), expected)
                self.assertIs(shows_verdict([three, turn], thirds, Clash(text, (0,) * many + (1, 1))), False)

    def test_barred_behind_long_images(self):
        made = [READ("a:aa b:b"), READ("a:a b:b"), READ("b:b"), READ("a:ac b:b")]
        right = Right.over("abc")
        for many in (1, 11, 12, 300):
            self.assertIs(shows_verdict(made, right, Clash("ab", (0,) * many)), True)
            self.assertIs(shows_verdict(made, right, Clash("ab", (0,) * many + (1,))), True)
            self.assertIs(shows_verdict(made, right, Clash("ab", (0,) * many + (2,))), False)
            self.assertIs(shows_verdict(made, right, Clash("ab", (0,) * many + (2, 0))), False)
            self.assertIs(shows_verdict(made, right, Clash("ab", (0,) * many + (3,))), True)
            self.assertIs(shows_verdict(made, right, Clash("ab", (0,) * many + (3, 1))), False)
            self.assertIs(shows_verdict(made, right, Clash("b" * 2000, (0,) * many)), False)
            self.assertIs(shows_verdict(made, right, Clash("b" * 1999 + "a", (0,) * many)), True)

    def test_what_decide_and_risk_of_tell_is_right_at_any_length(self):
        many = 0
        for misreadings, right in some_cases(409, 400, "abc", longest=4, standings=5, misreadings=2):
            try:
                found = decide(misreadings, right)
            except TooMany:
                continue
            if not found:
                for row in (found.row, found.row + found.row, found.row * 5):
                    expected = plain_clash_by(misreadings, right, found.text, row)
                    self.assertIs(shows_verdict(misreadings, right, Clash(found.text, row)), expected)
                    many += expected and len(row) > 4
                self.assertIs(shows_verdict(misreadings, right, found), True)
        self.assertGreater(many, 10)


class CalmTests(Checks, unittest.TestCase):

    def test_other_values(self):
        for value in any_values():
            self.assertIs(shows_verdict([WRONG], GOOD, value), False)
            self.assertIs(shows_verdict([WRONG], GOOD, Calm(value)), False)
            self.assertIs(shows_verdict([WRONG], GOOD, Calm((value,))), False)
        entries = decide([WRONG], GOOD).entries
        for wrong in (list(entries), entries[:3], entries[1:], entries + (None,), entries + (entries,), {0: entries[0]}):
            self.assertIs(shows_verdict([WRONG], GOOD, Calm(wrong)), False)
        self.assertIs(shows_verdict([WRONG], GOOD, entries), False)
        self.assertIs(shows_verdict([WRONG], GOOD, entries[0]), False)

    def test_of_another_list_or_right_set(self):
        calm = decide([WRONG], GOOD)
        self.assertIs(shows_verdict([WRONG], GOOD, calm), True)
        self.assertIs(shows_verdict([WRONG], Right.over("anexc"), calm), False)
        self.assertIs(shows_verdict([WRONG, WRONG], GOOD, calm), False)
        self.assertIs(shows_verdict([READ("a:a c:yc e:xc n:n x:xfx")], GOOD, calm), True)
        self.assertIs(shows_verdict([READ("a:a e:e n:n")], GOOD, calm), True)
        self.assertIs(shows_verdict([READ("a:a e:ee n:n")], GOOD, calm), False)
        self.assertIs(shows_verdict([READ("a:a c:yc e:xc f:f n:n x:xf")], GOOD, calm), True)
        self.assertIs(shows_verdict([READ("a:a b:c c:d d:e e:f f:q n:n")], GOOD, calm), False)

    def test_no_clash_where_there_is_a_calm(self):
        for misreadings, right, entries in some_calms(402, 100):
            for row in rows(len(misreadings), 2)[1:]:
                for text in texts("abc", 3):
                    self.assertIs(shows_verdict(misreadings, right, Clash(text, row)), False)

    def test_entries_in_another_order(self):
        chance = random.Random(403)
        many = 0
        for misreadings, right, entries in some_calms(403, 150):
            order = self.another_order(chance, entries)
            places = {number: at for at, number in enumerate(order)}
            fields = []
            for number in order:
                entry = entries[number]
                parent = None if entry.parent is None else places[entry.parent]
                fields.append([entry.first, parent, tuple(places[to] for to in entry.nexts), entry.pairs])
            self.assertIs(shows_verdict(misreadings, right, calm_of(fields)), True)
            many += order != sorted(order)
        self.assertGreater(many, 20)

    def another_order(self, chance, entries):
        """Numbers of the entries such that each one stands behind its parent."""
        order, waiting = [0], list(range(1, len(entries)))
        while waiting:
            at = chance.choice([number for number in waiting if entries[number].parent in order])
            waiting.remove(at)
            order.append(at)
        return order

    def test_an_effect_twice(self):
        for misreadings, right, entries in some_calms(404, 80):
            fields = copy_of(entries)
            for number in range(len(entries)):
                for first, to in enumerate(entries[number].nexts):
                    # One more entry for the effect of `to`, made by another way.
                    more = fields + [[first, number, entries[to].nexts, entries[to].pairs]]
                    self.assertIs(shows_verdict(misreadings, right, calm_of(more)), True)
                    turned = copy_of(calm_of(more).entries)
                    nexts = list(turned[number][2])
                    nexts[first] = len(entries)
                    turned[number][2] = tuple(nexts)
                    self.assertIs(shows_verdict(misreadings, right, calm_of(turned)), True)
                    wrong = fields + [[first, number, entries[to].nexts, entries[to].pairs[1:]]]
                    self.assertIs(shows_verdict(misreadings, right, calm_of(wrong)), False)

    def test_triples_in_another_order_and_more_of_them(self):
        chance = random.Random(405)
        results = {True: 0, False: 0}
        for misreadings, right, entries in some_calms(405, 150):
            fields = copy_of(entries)
            at = chance.randrange(len(fields))
            pairs = list(fields[at][3])
            chance.shuffle(pairs)
            fields[at][3] = tuple(pairs) + tuple(pairs[:2])
            self.assertIs(shows_verdict(misreadings, right, calm_of(fields)), True)
            size = len(right.standings)
            more = (chance.randrange(size), chance.randrange(size), chance.random() < 0.5)
            fields[at][3] = tuple(pairs) + (more,)
            expected = plain_shows(misreadings, right, calm_of(fields).entries)
            self.assertIs(shows_verdict(misreadings, right, calm_of(fields)), expected)
            results[expected] += more not in pairs
        self.assertGreater(min(results.values()), 5)

    def test_a_triple_less(self):
        for misreadings, right, entries in some_calms(406, 100, 12):
            for at, entry in enumerate(entries):
                for k in range(len(entry.pairs)):
                    fields = copy_of(entries)
                    fields[at][3] = entry.pairs[:k] + entry.pairs[k + 1:]
                    # Each triple is come to by letters from the beginning, so none of them can lack.
                    self.assertIs(shows_verdict(misreadings, right, calm_of(fields)), False)

    def test_a_triple_of_a_clash(self):
        right = Right.words("a", "b")
        entries = decide([READ("a:c b:d")], right).entries
        ends = [at for at, (steps, end) in enumerate(right.standings) if end]
        for at in range(len(entries)):
            for triple, expected in (((ends[0], ends[0], True), False), ((ends[0], ends[0], False), True),
                                     ((0, ends[0], True), None)):
                fields = copy_of(entries)
                fields[at][3] = fields[at][3] + (triple,)
                if expected is None:
                    expected = plain_shows([READ("a:c b:d")], right, calm_of(fields).entries)
                self.assertIs(shows_verdict([READ("a:c b:d")], right, calm_of(fields)), expected)

    def test_every_attribute_in_kind_and_value(self):
        made = [READ("a:b b:c c:c"), READ("a:a b:aa c:c")]
        right = Right.words("a", "abc", "aac").without("c")
        entries = decide(made, right).entries
        self.assertGreater(len(entries), 5)
        for at, entry in enumerate(entries):
            for k, value in enumerate((entry.first, entry.parent, entry.nexts, entry.pairs)):
                for other in [*any_values(), list(entry.nexts), list(entry.pairs), *range(-1, len(entries) + 1)]:
                    if like(other, value):
                        continue
                    fields = copy_of(entries)
                    fields[at][k] = other
                    expected = plain_shows(made, right, calm_of(fields).entries)
                    self.assertIs(shows_verdict(made, right, calm_of(fields)), expected, (at, k, other))
                    if type(other) is not int:
                        self.assertIs(expected, False)

    def test_every_next_and_triple_in_kind_and_value(self):
        made = [READ("a:b b:c c:c"), READ("a:a b:aa c:c")]
        right = Right.words("a", "abc", "aac").without("c")
        entries = decide(made, right).entries
        for at, entry in enumerate(entries):
            for k, number in enumerate(entry.nexts):
                for other in [*any_values(), float(number), *range(-len(entries), len(entries) + 1)]:
                    if not like(other, number):
                        fields = copy_of(entries)
                        fields[at][2] = entry.nexts[:k] + (other,) + entry.nexts[k + 1:]
                        self.assertIs(shows_verdict(made, right, calm_of(fields)), False)
            for nexts in (entry.nexts + entry.nexts[:1], entry.nexts[:-1], (), tuple([entry.nexts]), list(entry.nexts)):
                fields = copy_of(entries)
                fields[at][2] = nexts
                self.assertIs(shows_verdict(made, right, calm_of(fields)), False)
            for k, triple in enumerate(entry.pairs):
                p, q, changed = triple
                for other in [*any_values(), list(triple), triple + (0,), triple[:2], (p, q, int(changed)), (p, q, None),
                              (p - 8, q, changed), (p, q - 8, changed), (8, q, changed), (p, 8, changed),
                              (bool(p), q, changed), (p, bool(q), changed), (str(p), q, changed), ([p], q, changed)]:
                    if not like(other, triple):
                        fields = copy_of(entries)
                        fields[at][3] = entry.pairs[:k] + (other,) + entry.pairs[k + 1:]
                        self.assertIs(shows_verdict(made, right, calm_of(fields)), False)
                        fields[at][3] = entry.pairs + (other,)
                        self.assertIs(shows_verdict(made, right, calm_of(fields)), False)

    def test_random_changes_by_a_second_way(self):
        chance = random.Random(407)
        results = {True: 0, False: 0}
        for misreadings, right, entries in some_calms(407, 250):
            for _ in range(6):
                fields = copy_of(entries)
                if chance.random() < 0.5:
                    fields.append(list(fields[chance.randrange(len(fields))]))
                at = chance.randrange(len(fields))
                kind = chance.randrange(4)
                if kind == 0:
                    fields[at][0] = chance.choice([None, *range(len(misreadings) + 1)])
                elif kind == 1:
                    fields[at][1] = chance.choice([None, *range(at + 2)])
                elif kind == 2:
                    fields[at][2] = tuple(chance.randrange(len(fields)) if chance.random() < 0.3 else number
                                          for number in fields[at][2])
                else:
                    fields[at][3] = tuple(triple for triple in fields[at][3] if chance.random() < 0.9)
                expected = plain_shows(misreadings, right, calm_of(fields).entries)
                self.assertIs(shows_verdict(misreadings, right, calm_of(fields)), expected)
                results[expected] += 1
        self.assertGreater(min(results.values()), 100, results)

    def test_none_300_and_301_entries(self):
        none, right = Misreading({}), Right.words("")
        first, more = Entry(None, None, (0,), ((0, 0, False),)), Entry(0, 0, (7,), ((0, 0, False),))
        self.assertIs(shows_verdict([none], right, Calm((first,))), True)
        self.assertIs(shows_verdict([none], right, Calm((first,) + (more,) * 299)), True)
        self.assertIs(shows_verdict([none], right, Calm((first,) + (more,) * 300)), False)
        self.assertIs(shows_verdict([none], right, Calm(())), False)
        self.assertIs(shows_verdict([none], right, Calm((more,) * 8)), False)
        self.assertIs(shows_verdict([none], right, Calm((first, first))), False)

    def test_other_objects_in_the_place_of_entries(self):
        calm = decide([WRONG], GOOD)
        entries = calm.entries
        for at in range(len(entries)):
            entry = entries[at]
            told = (entry.first, entry.parent, entry.nexts, entry.pairs)
            for other in [*any_values(), told, list(told), (entry,), calm, Calm((entry,))]:
                wrong = entries[:at] + (other,) + entries[at + 1:]
                self.assertIs(shows_verdict([WRONG], GOOD, Calm(wrong)), False)

    def test_parents_stand_ahead(self):
        turn = READ("a:b b:c c:a")
        entries = decide([turn], Right.words("a")).entries
        for parent, right in ((0, False), (1, True), (2, False), (3, False), (-1, False), (None, False), (True, False)):
            fields = copy_of(entries)
            fields[2][1] = parent
            self.assertIs(shows_verdict([turn], Right.words("a"), calm_of(fields)), right)

    def test_no_calm_is_right_where_there_is_a_clash(self):
        many = 0
        for misreadings, right in some_cases(408, 150, "abc", standings=3, misreadings=2):
            try:
                found = decide(misreadings, right)
            except TooMany:
                continue
            if found or len(found.row) > 1:
                continue
            made, numbers, nexts = [plain_effect(misreadings, right, ())], {}, {}
            told = [(None, None)]
            for at in range(30):
                for first, misreading in enumerate(misreadings):
                    if at < len(made):
                        ahead = step_ahead(made[at], misreading)
                        if ahead not in made:
                            told.append((first, at))
                            made.append(ahead)
                        nexts[at, first] = made.index(ahead)
            if len(made) > 30:
                continue
            fields = []
            for at, plain in enumerate(made):
                pairs = [triple for triple in plain_pairs(right, plain)
                         if not (triple[2] and right.standings[triple[0]][1] and right.standings[triple[1]][1])]
                fields.append([*told[at], tuple(nexts[at, first] for first in range(len(misreadings))), tuple(sorted(pairs))])
            self.assertIs(shows_verdict(misreadings, right, calm_of(fields)), False)
            many += 1
        self.assertGreater(many, 10)

    def test_wrong_lists_and_right_sets_ahead_of_the_value(self):
        for value, at in wrong_lists():
            for paper in (5, Calm(5), Clash("a", 5)):
                self.assertRaisesWith(BadList, (at,), shows_verdict, value, 5, paper)
        for value in values_but(lambda value: isinstance(value, Right)):
            for paper in (5, Calm(5), Clash("a", 5)):
                self.assertRaisesWith(BadRight, ("right",), shows_verdict, [WRONG], value, paper)


if __name__ == "__main__":
    unittest.main()
