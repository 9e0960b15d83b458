"""What is lost for good by a number of misreadings by the same one, with papers for both answers."""

from blindrepair.checks import check_misreading, check_right
from blindrepair.effects import letters_of
from blindrepair.errors import BadNumber, TooMany
from blindrepair.letters import all_letters, is_between, is_index
from blindrepair.merging import has_long_image, merging
from blindrepair.papers import Verdict
from blindrepair.values import copied, equal

MOST_TIMES = 12
LONGEST_BEHIND = 64


class Kept(Verdict):
    """So many misreadings lose nothing: all rests of two right texts behind their parting tell it."""

    def __init__(self, number, dead):
        self.number = copied(number)
        self.dead = copied(dead)

    def __eq__(self, other):
        return isinstance(other, Kept) and equal((self.number, self.dead), (other.number, other.dead))

    def __bool__(self):
        return True


class KeptAll(Verdict):
    """No number of misreadings loses anything: nothing tells it if they are one to one, otherwise some Kepts."""

    def __init__(self, keeps):
        self.keeps = copied(keeps)

    def __eq__(self, other):
        return isinstance(other, KeptAll) and equal(self.keeps, other.keeps)

    def __bool__(self):
        return True


class Lost(Verdict):
    """So many misreadings make two unlike right texts one."""

    def __init__(self, number, one, other):
        self.number = copied(number)
        self.one = copied(one)
        self.other = copied(other)

    def __eq__(self, other):
        return isinstance(other, Lost) and equal(
            (self.number, self.one, self.other), (other.number, other.one, other.other))

    def __bool__(self):
        return False


def lost(misreading, right, number):
    """Whether so many misreadings lose nothing: Kept or Lost."""
    check_misreading(misreading)
    check_right(right)
    if not is_between(number, 1, MOST_TIMES):
        raise BadNumber(number)
    images = images_behind(misreading, number)
    if images is None:
        raise TooMany("image", LONGEST_BEHIND)
    ways = ways_to_rests(images, right)
    for rest in ways:
        if is_loss(right, rest):
            one, other = texts_of(ways, rest)
            return Lost(number, one, other)
    return Kept(number, ascending(right, ways))


def ever_lost(misreading, right):
    """Whether no number of misreadings loses anything: KeptAll, or the Lost of the least number that does."""
    check_misreading(misreading)
    check_right(right)
    if merging(misreading):
        return KeptAll(())
    keeps = []
    for number in range(1, len(misreading) + 1):
        found = lost(misreading, right, number)
        if not found:
            return found
        keeps.append(found)
    return KeptAll(tuple(keeps))


def shows_lost(misreading, right, paper):
    """Whether any value is a Lost, a Kept or a KeptAll that is right."""
    check_misreading(misreading)
    check_right(right)
    if isinstance(paper, KeptAll):
        return not has_long_image(misreading) and right_keeps(misreading, right, paper.keeps)
    if isinstance(paper, Kept):
        return right_kept(misreading, right, paper)
    return isinstance(paper, Lost) and right_lost(misreading, right, paper)


def images_behind(misreading, number):
    """The images of letters behind so many misreadings; None if one has more letters than can be."""
    # A letter can be barred behind images of any length, so lengths are reckoned before images are made.
    sizes = {letter: 1 for letter in letters_of(misreading)}
    for _ in range(number):
        sizes = {letter: sum([sizes[part] for part in misreading[letter]]) for letter in misreading
                 if all([part in sizes for part in misreading[letter]])}
    if any([sizes[letter] > LONGEST_BEHIND for letter in sizes]):
        return None
    images = {letter: letter for letter in sizes}
    for _ in range(number):
        images = {letter: misreading.image(images[letter]) for letter in images}
    return images


def ways_to_rests(images, right):
    """The rests that can be met, each with the one ahead of it, None at a parting, and what is read of both texts."""
    ways = {}
    queue = []
    for rest, one, other in partings(images, right):
        if rest not in ways:
            ways[rest] = (None, one, other)
            queue.append(rest)
    done = 0
    while done < len(queue):
        ahead = queue[done]
        done += 1
        for rest, letter in rests_behind(images, right, ahead):
            if rest not in ways:
                # The text whose image is behind goes on.
                ways[rest] = (ahead, "", letter) if ahead[0] == 0 else (ahead, letter, "")
                queue.append(rest)
    return ways


def partings(images, right):
    """The rests just behind a parting, each with the two texts."""
    begun = open_texts(images, right)
    found = []
    for at in begun:
        steps = open_steps(images, right, at)
        for place, (first, p) in enumerate(steps):
            for second, q in steps[place + 1:]:
                rest = rest_of(images[first], images[second], p, q)
                if rest is not None:
                    found.append((rest, begun[at] + first, begun[at] + second))
    return found


def open_texts(images, right):
    """For each standing that texts of letters with images lead to, one of the shortest such texts."""
    begun = {0: ""}
    queue = [0]
    done = 0
    while done < len(queue):
        at = queue[done]
        done += 1
        for letter, to in open_steps(images, right, at):
            if to not in begun:
                begun[to] = begun[at] + letter
                queue.append(to)
    return begun


def open_steps(images, right, at):
    """The steps from a standing by letters with images, letters ascending."""
    return [(letter, to) for letter, to in right.standings[at][0] if letter in images]


def rest_of(first, second, p, q):
    """The rest if images go on with these two words; None if none of the words begins with the other one."""
    if first.startswith(second):
        return (0, first[len(second):], p, q)
    if second.startswith(first):
        return (1, second[len(first):], p, q)
    return None


def rests_behind(images, right, rest):
    """The rests just behind a rest, each with the letter that one of the texts takes."""
    side, word, p, q = rest
    if side == 0:
        tried = [(rest_of(word, images[letter], p, to), letter) for letter, to in open_steps(images, right, q)]
    else:
        tried = [(rest_of(images[letter], word, to, q), letter) for letter, to in open_steps(images, right, p)]
    return [each for each in tried if each[0] is not None]


def is_loss(right, rest):
    """Whether two right texts have become one at a rest."""
    _, word, p, q = rest
    return word == "" and right.standings[p][1] and right.standings[q][1]


def texts_of(ways, rest):
    """The two texts that lead to a rest."""
    one = ""
    other = ""
    at = rest
    while at is not None:
        at, first, second = ways[at]
        one = first + one
        other = second + other
    return one, other


def ascending(right, rests):
    """Some rests, ascending."""
    known = {word: True for side, word, p, q in rests}
    words = sorted([str(word) for word in known])
    found = []
    for side in (0, 1):
        for word in words:
            found.extend([(side, word, p, q) for p in range(len(right)) for q in range(len(right))
                          if (side, word, p, q) in rests])
    return tuple(found)


def images_told(misreading, number):
    """The images behind so many misreadings, for any value of number; None if lost would raise an error."""
    return images_behind(misreading, number) if is_between(number, 1, MOST_TIMES) else None


def right_lost(misreading, right, paper):
    """Whether the two values of a Lost are unlike right texts that become one by its number."""
    images = images_told(misreading, paper.number)
    if images is None or paper.one not in right or paper.other not in right or paper.one == paper.other:
        return False
    if not all([letter in images for letter in paper.one + paper.other]):
        return False
    return image_by(images, paper.one) == image_by(images, paper.other)


def image_by(images, text):
    """The image of a text, at any length."""
    return "".join([images[letter] for letter in text])


def right_kept(misreading, right, paper):
    """Whether a Kept has all rests that can be met, and none at which something is lost."""
    images = images_told(misreading, paper.number)
    if images is None or not isinstance(paper.dead, tuple):
        return False
    if not all([is_rest(value, len(right)) for value in paper.dead]):
        return False
    known = {rest: True for rest in paper.dead}
    if not all([rest in known for rest, one, other in partings(images, right)]):
        return False
    return all([not is_loss(right, rest) and is_closed(images, right, known, rest) for rest in known])


def is_closed(images, right, known, rest):
    """Whether all rests just behind a rest are known."""
    return all([behind in known for behind, letter in rests_behind(images, right, rest)])


def is_rest(value, size):
    """Whether any value is a rest with numbers of standings below size."""
    if not isinstance(value, tuple) or len(value) != 4:
        return False
    side, word, p, q = value
    if not is_index(side, 2) or not isinstance(word, str) or not all_letters(word):
        return False
    return (side == 0 or word != "") and is_index(p, size) and is_index(q, size)


def right_keeps(misreading, right, keeps):
    """Whether any value is what a KeptAll has to have."""
    if not isinstance(keeps, tuple):
        return False
    if not keeps:
        return bool(merging(misreading))
    return len(keeps) == len(misreading) and all(
        [isinstance(kept, Kept) and equal(kept.number, at) and right_kept(misreading, right, kept)
         for at, kept in enumerate(keeps, 1)])
