"""Whether a list of misreadings is sound, with papers for both answers."""

from blindrepair.checks import check_misreadings
from blindrepair.meetings import Meetings, leads_of, meeting_with, rests_of, unlike_meeting
from blindrepair.merging import check_length, image_pairs
from blindrepair.papers import Verdict
from blindrepair.values import copied, equal


class Sound(Verdict):
    """No text has steps into it from two unlike texts: a paper for each pair of misreadings tells it."""

    def __init__(self, papers):
        self.papers = copied(papers)

    def __eq__(self, other):
        return isinstance(other, Sound) and equal(self.papers, other.papers)

    def __bool__(self):
        return True


class Unsound(Verdict):
    """Steps of two misreadings lead from two unlike texts to the same one."""

    def __init__(self, one, first, other, second):
        self.one = copied(one)
        self.first = copied(first)
        self.other = copied(other)
        self.second = copied(second)

    def __eq__(self, other):
        return isinstance(other, Unsound) and equal(
            (self.one, self.first, self.other, self.second), (other.one, other.first, other.other, other.second))

    def __bool__(self):
        return False


class Alike:
    """All meetings of the images of two misreadings are alike."""

    def __init__(self, leads, dead):
        self.leads = copied(leads)
        self.dead = copied(dead)

    def __eq__(self, other):
        return isinstance(other, Alike) and equal((self.leads, self.dead), (other.leads, other.dead))


class Still:
    """In no meeting of the images of two misreadings the row of one side has a letter that is changed."""

    def __init__(self, side, living, dead):
        self.side = copied(side)
        self.living = copied(living)
        self.dead = copied(dead)

    def __eq__(self, other):
        return isinstance(other, Still) and equal(
            (self.side, self.living, self.dead), (other.side, other.living, other.dead))


def sound(misreadings):
    """Whether a list of misreadings is sound: Sound or Unsound."""
    check_lists(misreadings)
    papers = []
    for first, second in index_pairs(len(misreadings)):
        left = misreadings[first]
        right = misreadings[second]
        meetings = Meetings(image_pairs(left), image_pairs(right))
        paper = paper_of(meetings, left.changed, right.changed)
        if paper is None:
            one, other = merging_steps(meetings, left.changed, right.changed)
            return Unsound(one, first, other, second)
        papers.append(paper)
    return Sound(tuple(papers))


def check_lists(misreadings):
    """Raises an error for what is no list of misreadings, or one with images that are too long for papers."""
    check_misreadings(misreadings)
    for misreading in misreadings:
        check_length(misreading)


def index_pairs(size):
    """All pairs of indexes of a list, the first one at most the second one, ascending."""
    return [(first, second) for first in range(size) for second in range(first, size)]


def paper_of(meetings, first_changed, second_changed):
    """The paper that tells that two misreadings make no text unsound; None if they do."""
    dead = rests_of(meetings, False)
    if unlike_meeting(meetings) is None:
        return Alike(leads_of(meetings), dead)
    if meeting_with(meetings, "one", first_changed) is None:
        return Still("one", rests_of(meetings, True), dead)
    if meeting_with(meetings, "two", second_changed) is None:
        return Still("two", rests_of(meetings, True), dead)
    return None


def merging_steps(meetings, first_changed, second_changed):
    """Two unlike texts with the same image, each with a letter that is changed, by joining meetings."""
    unlike = unlike_meeting(meetings)
    joined = unlike
    if not has_one_of(joined[0], first_changed):
        joined = both(joined, meeting_with(meetings, "one", first_changed))
    if not has_one_of(joined[1], second_changed):
        joined = both(joined, meeting_with(meetings, "two", second_changed))
    # If what was joined has made the texts the same, the unlike labels are not of one length, so once more helps.
    return both(unlike, joined) if joined[0] == joined[1] else joined


def both(way, more):
    """The labels of two meetings, one behind the other."""
    return (way[0] + more[0], way[1] + more[1])


def has_one_of(text, letters):
    """Whether one of some letters stands in a text."""
    return any([letter in letters for letter in text])
