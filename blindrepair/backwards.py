"""Steps taken back: the texts that a misreading turns into a text."""


def texts_behind(misreading, text, most):
    """All texts with an image, in any order; None if there are more than so many."""
    moves, counts = moves_from(by_first_letter(misreading), text)
    if counts[0] > most:
        return None
    found = []
    ways = [([], 0)] if counts[0] else []
    while ways:
        letters, at = ways.pop()
        while at < len(text):
            for letter, to in moves[at][1:]:
                ways.append((letters + [letter], to))
            letter, at = moves[at][0]
            letters.append(letter)
        found.append("".join(letters))
    return found


def by_first_letter(misreading):
    """The letters with their images, in lists by the first letters of the images."""
    fitting = {}
    for letter in misreading:
        image = misreading[letter]
        fitting.setdefault(image[0], []).append((letter, image))
    return fitting


def moves_from(fitting, text):
    """For each place of a text the letters whose images stand there, and how many texts come of the rest.

    A letter is told with the place behind its image, and only if what stands behind is the image of some text.
    """
    size = len(text)
    moves = [[] for _ in text]
    counts = [0] * size + [1]
    for at in range(size - 1, -1, -1):
        moves[at] = [(letter, at + len(image)) for letter, image in fitting.get(text[at], [])
                     if text.startswith(image, at) and counts[at + len(image)]]
        counts[at] = sum([counts[to] for letter, to in moves[at]])
    return moves, counts


def text_behind(fitting, text):
    """The one text with an image by a misreading that is one to one, told by first letters; None if there is none."""
    size = len(text)
    chosen = [("", 0)] * size + [("", size)]
    for at in range(size - 1, -1, -1):
        chosen[at] = None
        for letter, image in fitting.get(text[at], []):
            to = at + len(image)
            # If what stands behind is an image at all, it is that of one text: so one letter at most fits here.
            if to <= size and chosen[to] is not None and text.startswith(image, at):
                chosen[at] = (letter, to)
    return None if chosen[0] is None else "".join(letters_along(chosen))


def letters_along(chosen):
    """The letters that are chosen from the beginning on, each told with the place behind its image."""
    letters = []
    letter, at = chosen[0]
    while letter:
        letters.append(letter)
        letter, at = chosen[at]
    return letters
