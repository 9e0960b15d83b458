"""Machines that tell sets of texts, as lists of pairs (steps, ends).

Steps is a dict from letters to indexes of the list, and the first pair is the beginning. Operators of Right run
most of these functions, so they change only what they have made themselves.
"""

from blindrepair.errors import TooMany
from blindrepair.letters import LETTERS


def in_order(steps):
    """The steps of a standing as a list of pairs, letters ascending."""
    return [(letter, steps[letter]) for letter in LETTERS if letter in steps]


def reduced(machine, most):
    """The reduced machine of the same texts. Raises an error if it has more than so many standings."""
    kept = useful(machine)
    if not kept:
        return [({}, False)]
    classes = parted(machine, kept, most)
    rows = []
    for at in kept:
        # Classes are numbered as they are met, so this is the first standing of its class.
        if classes[at] == len(rows):
            steps, ends = machine[at]
            rows.append(({letter: classes[to] for letter, to in in_order(steps) if to in classes}, ends))
    return rows


def useful(machine):
    """The indexes of the standings that are come to and lead to an end, as they are first met."""
    leading = leads_to_end(machine)
    if not leading[0]:
        return []
    met = {0: True}
    queue = [0]
    done = 0
    while done < len(queue):
        steps = in_order(machine[queue[done]][0])
        for _, to in steps:
            if leading[to] and to not in met:
                met[to] = True
                queue.append(to)
        done += 1
    return queue


def leads_to_end(machine):
    """Tells for each standing whether an end can be come to from it."""
    leading = [ends for steps, ends in machine]
    again = True
    while again:
        again = False
        # Most steps lead to later standings, so few rounds are needed when the last one is looked at first.
        for at in range(len(machine) - 1, -1, -1):
            if not leading[at] and any([leading[to] for to in machine[at][0].values()]):
                leading[at] = True
                again = True
    return leading


def parted(machine, kept, most):
    """The class of each kept standing: alike ones have the same number, and numbers are as they are first met."""
    classes = {at: 0 for at in kept}
    many = 1
    while True:
        marks = [mark_of(machine, classes, at) for at in kept]
        numbers = {}
        for mark in marks:
            if mark not in numbers:
                numbers[mark] = len(numbers)
        # Classes are only ever parted further, so there is no need to go on to the last of them.
        if len(numbers) > most:
            raise TooMany("standings", most)
        classes = {at: numbers[mark] for at, mark in zip(kept, marks)}
        if len(numbers) == many:
            return classes
        many = len(numbers)


def mark_of(machine, classes, at):
    """What a standing must have in common with those of its class."""
    steps, ends = machine[at]
    return (ends, classes[at], tuple([(letter, classes[to]) for letter, to in in_order(steps) if to in classes]))


def paired(one, other, sign):
    """The machine of the pairs of standings to which texts lead in both machines; None is nowhere."""
    numbers = {(0, 0): 0}
    pairs = [(0, 0)]
    rows = []
    while len(rows) < len(pairs):
        left, right = pairs[len(rows)]
        steps = {}
        for letter in LETTERS:
            pair = (step_of(one, left, letter), step_of(other, right, letter))
            if pair != (None, None):
                if pair not in numbers:
                    numbers[pair] = len(pairs)
                    pairs.append(pair)
                steps[letter] = numbers[pair]
        rows.append((steps, ends_by(sign, ends_at(one, left), ends_at(other, right))))
    return rows


def step_of(machine, at, letter):
    """Where a letter leads from a standing or from nowhere."""
    return None if at is None else machine[at][0].get(letter)


def ends_at(machine, at):
    """Whether a standing is an end; nowhere is none."""
    return at is not None and machine[at][1]


def ends_by(sign, one, other):
    """Whether a text that is right by one, or not, and by other, or not, is right by both joined by a sign."""
    if sign == "&":
        return one and other
    if sign == "|":
        return one or other
    return one and not other


def told_by_words(words):
    """The machine of just these texts."""
    table = [{}]
    ends = [False]
    for word in words:
        at = 0
        for letter in word:
            if letter not in table[at]:
                table[at][letter] = len(table)
                table.append({})
                ends.append(False)
            at = table[at][letter]
        ends[at] = True
    return list(zip(table, ends))


def told_by_avoiding(letters, words):
    """The machine of all texts over letters in which none of the words stands."""
    tree = told_by_words(words)
    # The longest other beginning of a word with which the text of a standing ends: where to go on without a branch.
    back = {0: 0}
    bars = {0: False}
    rows = [({}, True) for pair in tree]
    queue = [0]
    done = 0
    while done < len(queue):
        at = queue[done]
        done += 1
        branches, ends = tree[at]
        bars[at] = ends or bars[back[at]]
        for letter in letters:
            # The beginning has no steps yet when it is looked at itself: without a branch they lead back to it.
            elsewhere = rows[back[at]][0].get(letter, 0)
            to = branches.get(letter, elsewhere)
            rows[at][0][letter] = to
            # Only a branch leads to a standing that has not been met, as all others are of shorter texts.
            if to not in back:
                back[to] = elsewhere
                queue.append(to)
    return [({}, False) if bars.get(at, False) else row for at, row in enumerate(rows)]


def moved(machine, by):
    """The standings of a machine, with numbers that are so much greater."""
    return [({letter: steps[letter] + by for letter in steps}, ends) for steps, ends in machine]


def behind_text(machine, text):
    """The machine of the texts of another one with a text ahead of each."""
    return [({letter: at + 1}, False) for at, letter in enumerate(text)] + moved(machine, len(text))


def begun_at(machine, at):
    """The machine of the texts that lead from a standing to an end."""
    rows = moved(machine, 1)
    return [rows[at]] + rows


def without_letters(machine, letters):
    """The machine of the texts of another one without some letters."""
    return [({letter: steps[letter] for letter in steps if letter not in letters}, ends) for steps, ends in machine]
