"""Effects, clashes and pairs by a second, plain way: by images of letters at any length, and by tuples alone."""

import itertools
import random

from blindrepair.misreadings import Misreading
from blindrepair.rights import Right


def image_along(misreadings, row, text):
    """The image of a text under a row, at any length; None if the row cannot happen to it."""
    for index in row:
        if any(letter not in misreadings[index] for letter in text):
            return None
        text = "".join(misreadings[index][letter] for letter in text)
    return text


def behind(right, start, text):
    """The standing to which a text of any length leads."""
    for letter in text:
        start = dict(right.standings[start][0]).get(letter) if start is not None else None
    return start


def is_right(right, text):
    """Whether a text of any length is right."""
    at = behind(right, 0, text)
    return at is not None and right.standings[at][1]


def all_letters(misreadings, right):
    """The letters of an effect, ascending."""
    letters = set(right.letters)
    for misreading in misreadings:
        letters |= set(misreading) | set("".join(misreading[letter] for letter in misreading))
    return sorted(letters)


def plain_effect(misreadings, right, row):
    """For each letter None, or where its image leads from each standing and its image if it is a single letter."""
    found = {}
    for letter in all_letters(misreadings, right):
        image = image_along(misreadings, row, letter)
        if image is None:
            found[letter] = None
        else:
            found[letter] = (tuple(behind(right, at, image) for at in range(len(right.standings))),
                             image if len(image) == 1 else None)
    return found


def told_by(effect):
    """What an Effect tells, in the form of plain_effect."""
    return {letter: None if effect[letter] is None else (effect[letter], effect.single(letter)) for letter in effect}


def rows(many, most):
    """All rows of at most so many indexes, in their order."""
    return [row for size in range(most + 1) for row in itertools.product(range(many), repeat=size)]


def step_ahead(plain, misreading):
    """A plain effect with a misreading ahead."""
    found = {}
    for letter in plain:
        parts = [plain[other] for other in misreading[letter]] if letter in misreading else [None]
        if None in parts:
            found[letter] = None
            continue
        leads = []
        for start in range(len(parts[0][0])):
            for part in parts:
                start = None if start is None else part[0][start]
            leads.append(start)
        found[letter] = (tuple(leads), parts[0][1] if len(parts) == 1 else None)
    return found


def plain_effects(misreadings, right, most):
    """The first effects, so many at most, as (row, plain effect); rows are tried by length, then ascending."""
    start = plain_effect(misreadings, right, ())
    found, seen, last = [((), start)], [start], [((), start)]
    while last and len(found) < most:
        level = []
        for first, misreading in enumerate(misreadings):
            for row, plain in last:
                ahead = step_ahead(plain, misreading)
                if ahead not in seen:
                    seen.append(ahead)
                    level.append(((first,) + row, ahead))
        level.sort(key=lambda pair: pair[0])
        found += level
        last = level
    return found[:most]


def plain_pairs(right, plain):
    """The triples of an effect, each with its first text."""
    found = {(0, 0, False): ""}
    last = [(0, 0, False)]
    while last:
        level = {}
        for p, q, changed in last:
            for letter, to in right.standings[p][0]:
                if plain[letter] is not None and plain[letter][0][q] is not None:
                    triple = (to, plain[letter][0][q], changed or plain[letter][1] != letter)
                    text = found[(p, q, changed)] + letter
                    if triple not in found:
                        level[triple] = min(text, level.get(triple, text))
        found.update(level)
        last = list(level)
    return found


def plain_clash(right, plain):
    """The least text of a clash by an effect, None if there is none."""
    texts = [text for (p, q, changed), text in plain_pairs(right, plain).items()
             if changed and right.standings[p][1] and right.standings[q][1]]
    return min(texts, key=lambda text: (len(text), text), default=None)


def some_cases(seed, many, letters="abcd", longest=3, standings=4, misreadings=4):
    """Pairs of a list of misreadings and a right set, the same ones for each seed."""
    chance = random.Random(seed)
    for _ in range(many):
        kept = chance.choice([0.2, 0.4, 0.6])
        made = []
        for _ in range(chance.randint(1, misreadings)):
            images = {}
            for letter in letters:
                if chance.random() < 0.85:
                    size = chance.choice([1] * 4 + list(range(1, longest + 1)))
                    other = "".join(chance.choice(letters) for _ in range(size))
                    images[letter] = letter if chance.random() < kept else other
            made.append(Misreading(images))
        size = chance.randint(1, standings)
        many_ends = chance.choice([0.2, 0.5])
        yield made, Right(*[({letter: chance.randrange(size) for letter in letters if chance.random() < 0.6},
                             chance.random() < many_ends) for _ in range(size)])


def just_300(more=False):
    """A misreading and a right set for which just 300 numbers of misreadings have unlike effects, or 301.

    Behind k misreadings x is x and k letters f; f leads round 8 standings, g round 7 and h round 5 of them, so the
    effects come again with the period 280. And w goes on with k letters stuv again and again; v leads from 0 to 4 and
    no farther, so from 20 on this leads nowhere.
    """
    told = "f:f g:g h:h s:t t:u u:v v:s w:ws x:xf y:yg z:zh"
    steps = []
    for at in range(8):
        step = {letter: at for letter in "stuwxyz"}
        step["f"] = (at + 1) % 8
        step["g"] = (at + 1) % 7 if at < 7 else at
        step["h"] = (at + 1) % 5 if at < 5 else at
        if at < 4:
            step["v"] = at + 1
        steps.append((step, at == 0))
    return Misreading.read("a:w " + told if more else told), Right(*steps)


def turns_of_ten():
    """A list with just 300 effects: all even turns of five letters, beside all turns of a ring of five others."""
    return [Misreading.read("a:b b:c c:a d:d e:e f:f g:g h:h i:i j:j"),
            Misreading.read("a:a b:b c:d d:e e:c f:f g:g h:h i:i j:j"),
            Misreading.read("a:a b:b c:c d:d e:e f:g g:h h:i i:j j:f")]


def late_clashes():
    """Two lists with more than 300 effects, each with a right set, its first clash and the number of the effect."""
    told = [(["a:c b:a c:e d:d e:b", "a:a b:c c:d d:b e:e", "a:a b:d c:c d:d e:d"], ["ccce", "addc"], "addc",
             (0, 0, 0, 2, 1, 0, 0), 299),
            (["a:e b:a c:e d:a e:d", "a:b b:d c:e d:c e:a", "a:c b:a c:b d:e e:d"], ["dcae", "baeb"], "dcae",
             (1, 0, 0, 2, 1, 1), 300)]
    return [([Misreading.read(each) for each in made], Right.words(*words), text, row, number)
            for made, words, text, row, number in told]
