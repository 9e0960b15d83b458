"""A search for the first right text that a machine with several ways takes to an end."""


def least_right(right, moves, start, ends):
    """The first right text that leads from a start to one of some ends, None if there is none.

    Moves has for each place the pairs of a letter and a place to which it leads; a letter can lead to several ones.
    """
    steps = [dict(pairs) for pairs, ended in right.standings]
    level = {(0, start): ""}
    met = {(0, start): True}
    while level:
        found = [level[pair] for pair in level if pair[1] in ends and right.standings[pair[0]][1]]
        if found:
            return min([str(text) for text in found])
        level = next_level(steps, moves, level, met)
        for pair in level:
            met[pair] = True
    return None


def next_level(steps, moves, level, met):
    """The pairs of a standing and a place that are first met by one letter more, each with the least text."""
    found = {}
    for (at, place), text in level.items():
        for letter, target in moves[place]:
            pair = (steps[at].get(letter), target)
            if pair[0] is not None and pair not in met:
                longer = text + letter
                if pair not in found or longer < found[pair]:
                    found[pair] = longer
    return found
