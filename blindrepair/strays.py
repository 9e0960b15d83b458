"""Which texts a list of replacements does not take back behind a number of misreadings.

A misreading is taken back at a text if, at the beginning of each image, just the right row is the longest one that
stands there. So it is not if somewhere a row begins with the image of a letter and goes on into the images behind it.
A watch reads a text letter by letter and keeps what is left of such rows.
"""

from blindrepair.effects import joined
from blindrepair.searches import least_right


def first_stray(results, misreading, right):
    """The first text and the least number for which a misreading is not taken back, None if there are none."""
    steps, spoilt = watch_of(results, misreading)
    images = {letter: (tuple([row[letter] for row in steps]), letter) for letter in misreading}
    met = {}
    number = 0
    # What letters become tells what they become by one misreading more, so it comes again and again from some time on.
    told = told_by(images)
    while told not in met:
        met[told] = True
        text = least_right(right, watch_moves(images, len(steps)), 0, spoilt)
        if text is not None:
            return (text, number)
        images = {letter: joined(images, misreading[letter]) for letter in misreading}
        told = told_by(images)
        number += 1
    return None


def told_by(images):
    """What all letters become, as a key."""
    return tuple([images[letter] for letter in images])


def watch_moves(images, size):
    """For each place of a watch the letters that are not barred, each with the place to which its image leads."""
    return {at: [(letter, images[letter][0][at]) for letter in images if images[letter] is not None]
            for at in range(size)}


def watch_of(results, misreading):
    """The steps of a watch by letters, from each place, and the places at which a text is not taken back, as keys."""
    begun = {letter: rests_begun(results, misreading, letter) for letter in misreading}
    numbers = {(): 0}
    places = [()]
    steps = []
    while len(steps) < len(places):
        place = places[len(steps)]
        row = {}
        for letter in misreading:
            target = place_behind(place, misreading[letter], begun[letter])
            if target not in numbers:
                numbers[target] = len(places)
                places.append(target)
            row[letter] = numbers[target]
        steps.append(row)
    return steps, {numbers[place]: True for place in numbers if place is None}


def rests_begun(results, misreading, letter):
    """What is left, behind the image of a letter, of the rows that must not stand there; None if no way is right."""
    image = misreading[letter]
    if results.get(image) != (letter if letter in misreading.changed else None):
        return None
    return [row[len(image):] for row in results if row.startswith(image) and row != image]


def place_behind(place, image, begun):
    """The place to which an image leads: the rests, ascending; None if the text is not taken back."""
    if place is None or begun is None:
        return None
    rests = {rest: True for rest in begun}
    for rest in place:
        if image.startswith(rest):
            return None
        if rest.startswith(image):
            rests[rest[len(image):]] = True
    return tuple(sorted([str(rest) for rest in rests]))
