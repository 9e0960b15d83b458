"""Values of any kind: how they are kept, and when two of them are the same."""


def copied(value):
    """An equal value. What is done to a list or dict later must not reach an object that keeps it."""
    if isinstance(value, list):
        return [copied(part) for part in value]
    if isinstance(value, tuple):
        return tuple([copied(part) for part in value])
    if isinstance(value, dict):
        return {key: copied(value[key]) for key in value}
    return value


def equal(one, other):
    """Whether two values are the same and of the same kinds throughout: for Python alone, True equals 1."""
    if isinstance(one, dict):
        return isinstance(other, dict) and equal_dicts(one, other)
    if isinstance(one, list):
        return isinstance(other, list) and equal_rows(one, other)
    if isinstance(one, tuple):
        return isinstance(other, tuple) and equal_rows(one, other)
    return isinstance(one, bool) == isinstance(other, bool) and one == other


def equal_rows(one, other):
    """Whether two lists, or two tuples, have the same items."""
    return len(one) == len(other) and all([equal(left, right) for left, right in zip(one, other)])


def equal_dicts(one, other):
    """Whether two dicts have the same items, in any order."""
    # A dict finds 1 by True, so the keys themselves have to be compared, too.
    kept = {key: key for key in other}
    return len(one) == len(other) and all(
        [key in kept and equal(key, kept[key]) and equal(one[key], other[key]) for key in one])


def by_name(table):
    """A dict with the same items, its keys, texts, ascending."""
    return {name: table[name] for name in sorted([str(name) for name in table])}
