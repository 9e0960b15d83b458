"""Whether a misreading is one to one, with papers for both answers."""

from blindrepair.checks import check_misreading
from blindrepair.errors import Merging, TooMany
from blindrepair.letters import is_text
from blindrepair.look_meetings import right_leads
from blindrepair.meetings import Meetings, leads_of, rests_of, unlike_meeting
from blindrepair.papers import Verdict
from blindrepair.values import copied, equal

LONGEST_IMAGE = 8


class OneToOne(Verdict):
    """No two unlike texts have the same image: the leads and dead rests of the images tell it."""

    def __init__(self, leads, dead):
        self.leads = copied(leads)
        self.dead = copied(dead)

    def __eq__(self, other):
        return isinstance(other, OneToOne) and equal((self.leads, self.dead), (other.leads, other.dead))

    def __bool__(self):
        return True


class Merged(Verdict):
    """Two unlike texts have the same image."""

    def __init__(self, one, other):
        self.one = copied(one)
        self.other = copied(other)

    def __eq__(self, other):
        return isinstance(other, Merged) and equal((self.one, self.other), (other.one, other.other))

    def __bool__(self):
        return False


def merging(misreading):
    """Whether a misreading is one to one: OneToOne or Merged."""
    check_images(misreading)
    pairs = image_pairs(misreading)
    meetings = Meetings(pairs, pairs)
    unlike = unlike_meeting(meetings)
    if unlike is None:
        return OneToOne(leads_of(meetings), rests_of(meetings, False))
    one, other = unlike
    return Merged(one, other)


def shows_merging(misreading, value):
    """Whether any value is a OneToOne or a Merged that is right."""
    check_images(misreading)
    if isinstance(value, OneToOne):
        pairs = image_pairs(misreading)
        return right_leads(pairs, pairs, value.leads, value.dead)
    return isinstance(value, Merged) and merges(misreading, value.one, value.other)


def merges(misreading, one, other):
    """Whether any two values are unlike texts that have the same image."""
    return (can_happen(misreading, one) and can_happen(misreading, other) and one != other
            and misreading.image(one) == misreading.image(other))


def can_happen(misreading, value):
    """Whether any value is a text to which a misreading can happen."""
    return is_text(value) and misreading.first_barred(value) is None


def image_pairs(misreading):
    """The images of a misreading with their letters as labels."""
    return [(misreading[letter], letter) for letter in misreading]


def check_images(misreading):
    """Raises an error for what is no Misreading, or one with images that are too long for papers."""
    check_misreading(misreading)
    check_length(misreading)


def check_length(misreading):
    """Raises an error for a Misreading with images that are too long for papers."""
    if has_long_image(misreading):
        raise TooMany("image", LONGEST_IMAGE)


def has_long_image(misreading):
    """Whether some image of a Misreading is too long for papers."""
    return any([len(misreading[letter]) > LONGEST_IMAGE for letter in misreading])


def check_one_to_one(misreading):
    """Raises an error for what is no Misreading, or one that is not one to one."""
    found = merging(misreading)
    if not found:
        raise Merging(found.one, found.other)
