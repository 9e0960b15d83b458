"""Whether texts are told back if each of their letters was misread a number of times of its own."""

from blindrepair.checks import check_misreading
from blindrepair.errors import BadNumber, BadWord, TooMany
from blindrepair.letters import is_between, is_index, is_text
from blindrepair.look_meetings import right_leads
from blindrepair.meetings import END, Meetings, leads_of, place_behind, rests_of, unlike_meeting
from blindrepair.papers import Verdict
from blindrepair.values import copied, equal

MOST_LETTERS = 10
MOST_TIMES = 3
LONGEST_WORD = 16
# None of two texts is ahead, and the first one goes on.
BOTH = ("two", "")


class Readable(Verdict):
    """The texts are told back: the leads and dead rests of the words that letters can have become tell it."""

    def __init__(self, leads, dead):
        self.leads = copied(leads)
        self.dead = copied(dead)

    def __eq__(self, other):
        return isinstance(other, Readable) and equal((self.leads, self.dead), (other.leads, other.dead))

    def __bool__(self):
        return True


class Blurred(Verdict):
    """Two unlike texts of which the same one comes, and how often each letter of them is misread."""

    def __init__(self, one, counts, other, others):
        self.one = copied(one)
        self.counts = copied(counts)
        self.other = copied(other)
        self.others = copied(others)

    def __eq__(self, other):
        return isinstance(other, Blurred) and equal(
            (self.one, self.counts, self.other, self.others), (other.one, other.counts, other.other, other.others))

    def __bool__(self):
        return False


def mixed(misreading, letters, most):
    """Whether texts over letters are told back if each letter was misread up to so many times: Readable or Blurred."""
    words = words_of_letters(misreading, letters, most)
    pairs = word_pairs(words)
    meetings = Meetings(pairs, pairs)
    unlike = unlike_meeting(meetings)
    if unlike is None:
        return Readable(leads_of(meetings), rests_of(meetings, False))
    one, other = unlike
    counts, others = counts_of(words, one, other)
    return Blurred(one, counts, other, others)


def shows_mixed(misreading, letters, most, value):
    """Whether any value is a Readable or a Blurred that is right."""
    words = words_of_letters(misreading, letters, most)
    if isinstance(value, Readable):
        pairs = word_pairs(words)
        return right_leads(pairs, pairs, value.leads, value.dead)
    return isinstance(value, Blurred) and right_blurred(words, value)


def words_of_letters(misreading, letters, most):
    """For each letter what it has become by 0, 1 and so on misreadings, as often as it can be misread."""
    check_misreading(misreading)
    if not are_letters(letters):
        raise BadWord(letters)
    if not is_between(most, 0, MOST_TIMES):
        raise BadNumber(most)
    words = {letter: words_from(misreading, letter, most) for letter in letters}
    if any([len(word) > LONGEST_WORD for letter in letters for word in words[letter]]):
        raise TooMany("image", LONGEST_WORD)
    return words


def are_letters(value):
    """Whether any value is a text of unlike letters, one at least."""
    return (is_text(value) and 1 <= len(value) <= MOST_LETTERS
            and all([letter not in value[:at] for at, letter in enumerate(value)]))


def words_from(misreading, letter, most):
    """What a letter has become by 0, 1 and so on misreadings."""
    words = [letter]
    while len(words) <= most and misreading.first_barred(words[-1]) is None:
        words.append(misreading.image(words[-1]))
    return words


def word_pairs(words):
    """All unlike words with their letters as labels."""
    return [(word, letter) for letter in words
            for at, word in enumerate(words[letter]) if word not in words[letter][:at]]


def counts_of(words, one, other):
    """How often the letters of two texts are misread so that both become the same text; there is a way."""
    start = (0, 0, BOTH)
    ways = {start: ((), ())}
    queue = [start]
    done = 0
    while done < len(queue):
        state = queue[done]
        counts, others = ways[state]
        done += 1
        for target, more, others_more in states_behind(words, one, other, state):
            if target not in ways:
                ways[target] = (counts + more, others + others_more)
                queue.append(target)
    return ways[(len(one), len(other), BOTH)]


def states_behind(words, one, other, state):
    """The states behind a state, each with the counts by which one of both texts goes on.

    A state has how many letters of each text are read, and the rest: which text is ahead, and by what.
    """
    first, second, (ahead, rest) = state
    left = one[first:first + 1] if ahead == "two" else other[second:second + 1]
    found = []
    for count, word in enumerate(words.get(left, ())):
        place = place_behind(ahead, rest, word)
        if place is not None:
            place = BOTH if place == END else place
            if ahead == "two":
                found.append(((first + 1, second, place), (count,), ()))
            else:
                found.append(((first, second + 1, place), (), (count,)))
    return found


def right_blurred(words, value):
    """Whether the four values of a Blurred are two unlike texts, with counts by which they become the same text."""
    one = text_behind_counts(words, value.one, value.counts)
    other = text_behind_counts(words, value.other, value.others)
    return one is not None and one == other and value.one != value.other


def text_behind_counts(words, text, counts):
    """What a text becomes if its letters are misread so often; None for any values for which there is no such text."""
    if not is_text(text) or not all([letter in words for letter in text]):
        return None
    if not isinstance(counts, tuple) or len(counts) != len(text):
        return None
    if not all([is_index(count, len(words[letter])) for letter, count in zip(text, counts)]):
        return None
    return "".join([words[letter][count] for letter, count in zip(text, counts)])
