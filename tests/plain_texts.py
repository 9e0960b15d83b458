"""A second, plain way to tell where a text of a thing is wrong: word by word, by patterns alone."""

import itertools
import re


def plain_fault(text, heads=("misreadings", "right", "fixer", "write", "read")):
    """The line and the word of which BadText tells, None if the text is right."""
    if type(text) is not str:
        return 0, 0
    lines = [line.split(" ") for line in text.split("\n")]
    if lines[0][0] not in heads:
        return 0, 0
    if len(lines[0]) > 1:
        return 0, 1
    head, last = lines[0][0], None
    most = {"misreadings": 4, "right": 1, "fixer": 12, "write": 26, "read": 256}[head]
    for number, words in enumerate(lines[1:], 1):
        if number > most:
            return number, 0
        at = {"misreadings": misreading_fault, "right": right_fault, "fixer": pair_fault, "write": code_fault,
              "read": sign_fault}[head](words, last)
        if at is not None:
            return number, at
        last = words[0]
    if len(lines) == 1 and head in ("misreadings", "right", "fixer"):
        return 1, 0
    return None


def misreading_fault(words, last):
    if words[0] == "-":
        return None if len(words) == 1 else 1
    for at, word in enumerate(words):
        if at == 12 or not re.fullmatch("[a-z]:[a-z]{1,4}", word) or (at > 0 and word[0] <= words[at - 1][0]):
            return at
    return None


def right_fault(words, last):
    """The standings are separated by slashes; each is -, or end and steps, letters ascending."""
    standings, steps = 1, None
    for at, word in enumerate(words):
        if word == "/":
            if steps is None or standings == 8:
                return at
            standings, steps = standings + 1, None
        elif word in ("-", "end"):
            if steps is not None:
                return at
            steps = "~" if word == "-" else ""
        elif re.fullmatch("[a-z]>[0-7]", word) and (steps is None or steps < word[0]):
            steps = word[0]
        else:
            return at
    numbers = [int(word[2]) for word in words if ">" in word]
    if steps is None or max(numbers, default=0) >= standings:
        return len(words)
    return None if is_reduced([row.split() for row in " ".join(words).split(" / ")]) else 0


def is_reduced(rows):
    """Whether the words of standings tell a reduced machine."""
    if rows == [["-"]]:
        return True
    steps = [{word[0]: int(word[2]) for word in row if ">" in word} for row in rows]
    met = [0]
    for at in met:
        met += [to for to in dict.fromkeys(steps[at].values()) if to not in met]
    leading = kinds = [row[0] == "end" for row in rows]
    for _ in rows:
        leading = [leads or any(leading[to] for to in told.values()) for leads, told in zip(leading, steps)]
        # Standings are of one kind as long as no text of so many letters tells them apart.
        signs = [(kind, [(letter, kinds[to]) for letter, to in told.items()]) for kind, told in zip(kinds, steps)]
        kinds = [signs.index(sign) for sign in signs]
    return met == list(range(len(rows))) and all(leading) and len(set(kinds)) == len(rows)


def pair_fault(words, last):
    if not re.fullmatch("[a-z]{1,8}", words[0]) or (last is not None and words[0] <= last):
        return 0
    if len(words) == 1 or not re.fullmatch("[a-z]+", words[1]) or len(words[1]) > len(words[0]) or words[0] == words[1]:
        return 1
    return None if len(words) == 2 else 2


def is_number(word):
    return word in [str(number) for number in range(256)]


def code_fault(words, last):
    if not re.fullmatch("[a-z]", words[0]) or (last is not None and words[0] <= last):
        return 0
    for at, word in enumerate(words[1:], 1):
        if at == 5 or not is_number(word):
            return at
    return 1 if len(words) == 1 else None


def sign_fault(words, last):
    if not is_number(words[0]) or (last is not None and int(words[0]) <= int(last)):
        return 0
    if len(words) == 1 or not re.fullmatch("[a-z]", words[1]):
        return 1
    return None if len(words) == 2 else 2


def spoilt(text):
    """The text with a word or a line left out, doubled, exchanged, put in, empty, or with blanks at the ends."""
    lines = [line.split(" ") for line in text.split("\n")]
    some = ["", "a", "z", "-", "end", "/", "7", "8", "0", "255", "256", "007", "+1", "-0", "1 ", "a:b", "z:zzzzz", "m:", ":a", "a>0",
            "z>9", "A", "misreadings", "right", "fixer", "write", "read", "abcdefghi", "ab", "a" * 2001]

    def joined(rows):
        return "\n".join(" ".join(row) for row in rows)
    for number, words in enumerate(lines):
        before, behind = lines[:number], lines[number + 1:]
        made = [[*words, ""], ["", *words], [""]]
        for at in range(len(words)):
            made += [words[:at] + words[at + 1:], words[:at] + words[at:at + 1] + words[at:]]
            made += [words[:at] + [word] + words[at + 1:] for word in some] + [words[:at] + [word] + words[at:] for word in some]
            made += [words[:at] + [words[at] + more] + words[at + 1:] for more in ("a", "1", " ", "\t", ":")]
            made += [words[:at] + [other] + words[at + 1:k] + [words[at]] + words[k + 1:]
                     for k, other in enumerate(words) if k > at]
        for row in made + [[*words, word] for word in some]:
            yield joined(before + [row] + behind)
        yield joined(before + behind)
        yield joined(before + [words, words] + behind)
        yield joined(before + [[""], words] + behind)
        for other in range(number + 1, len(lines)):
            yield joined(before + [lines[other]] + lines[number + 1:other] + [words] + lines[other + 1:])
    yield text + "\n"
    yield "\n" + text
    yield text + " "
    yield " " + text
    yield text.upper()
    yield text.replace(" ", "  ")
    yield text.replace("\n", "\n\n")
    yield text.replace("\n", "\r\n")
    for first, second in itertools.combinations(range(0, len(text), 3), 2):
        yield text[:first] + text[second:]
