"""A look at the papers of sound: whether they are right."""

from blindrepair.letters import is_index
from blindrepair.look_meetings import is_side, right_leads, right_still
from blindrepair.merging import can_happen, image_pairs
from blindrepair.sound import Alike, Sound, Still, Unsound, check_lists, index_pairs


def shows_sound(misreadings, value):
    """Whether any value is a Sound with right papers or an Unsound that is right."""
    check_lists(misreadings)
    if isinstance(value, Sound):
        return right_papers(misreadings, value.papers)
    return isinstance(value, Unsound) and right_unsound(misreadings, value)


def right_papers(misreadings, papers):
    """Whether any value is a tuple with a right paper for each pair of misreadings."""
    pairs = index_pairs(len(misreadings))
    if not isinstance(papers, tuple) or len(papers) != len(pairs):
        return False
    return all([right_paper(misreadings[first], misreadings[second], paper)
                for (first, second), paper in zip(pairs, papers)])


def right_paper(first, second, paper):
    """Whether any value is an Alike or a Still that is right for two misreadings."""
    left = image_pairs(first)
    right = image_pairs(second)
    if isinstance(paper, Alike):
        return right_leads(left, right, paper.leads, paper.dead)
    if not isinstance(paper, Still) or not is_side(paper.side):
        return False
    changed = first.changed if paper.side == "one" else second.changed
    return right_still(left, right, paper.living, paper.dead, paper.side, changed)


def right_unsound(misreadings, value):
    """Whether steps of the two told misreadings lead from the two told texts, unlike ones, to the same text."""
    size = len(misreadings)
    if not is_index(value.first, size) or not is_index(value.second, size):
        return False
    first = misreadings[value.first]
    second = misreadings[value.second]
    if not can_happen(first, value.one) or not can_happen(second, value.other) or value.one == value.other:
        return False
    # An image can have more letters than a text: images are compared at any length.
    image = first.image(value.one)
    return image == second.image(value.other) and image not in (value.one, value.other)
