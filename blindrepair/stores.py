"""Stores: texts under names that are misread and repaired, with a way back."""

from blindrepair.checks import check_misreadings, check_right
from blindrepair.errors import BadName, BadNumber, BadTable, BadWord, Barred, NoName, Nothing, TooMany
from blindrepair.letters import bounded, is_between, is_index, is_name, is_text
from blindrepair.misreadings import Misreading
from blindrepair.origins import repaired, right_ones
from blindrepair.values import by_name

MOST_NAMES = 200


class Store:
    """Texts under names.

    What it holds is never changed itself, only exchanged: so it can be read on while the store changes, and what it
    was is still there when changes are taken back.
    """

    def __init__(self, misreadings, right, *, limit=40):
        check_misreadings(misreadings)
        check_right(right)
        check_limit(limit, 0)
        self._misreadings = tuple(misreadings)
        self._right = right
        self._state = State({}, limit, None, None)

    def __len__(self):
        return len(self._state.kept)

    def __iter__(self):
        return iter(self._state.kept)

    def __contains__(self, x):
        return isinstance(x, str) and x in self._state.kept

    def __getitem__(self, at):
        if at not in self:
            raise NoName(at)
        return self._state.kept[at]

    def __setitem__(self, at, worth):
        self.put(at, worth)

    def put(self, name, text):
        """Keeps a text under a name."""
        if not is_name(name):
            raise BadName(name)
        if not is_text(text):
            raise BadWord(text)
        kept = self._state.kept
        if name not in kept and len(kept) >= self._state.most:
            raise TooMany("names", self._state.most)
        if kept.get(name) != text:
            self._change(f"put {name}", by_name({**kept, name: text}))

    def drop(self, name):
        """Takes a name out and returns its text."""
        text = self[name]
        kept = self._state.kept
        self._change(f"drop {name}", {other: kept[other] for other in kept if other != name})
        return text

    def between(self, first, last):
        """The names from first to last, both included."""
        for name in (first, last):
            if not is_name(name):
                raise BadName(name)
        for name in [other for other in self._state.kept if first <= other <= last]:
            yield name

    @property
    def limit(self):
        """How many names there can be."""
        return self._state.most

    @limit.setter
    def limit(self, value):
        self.set_limit(value)

    def set_limit(self, value):
        """Sets how many names there can be."""
        check_limit(value, len(self))
        if value != self._state.most:
            self._state = State(self._state.kept, value, f"limit {value}", self._state)

    def misread(self, index, *names):
        """A misreading of the list happens once to the texts of some names, or of all if none is told."""
        if not is_index(index, len(self._misreadings)):
            raise BadNumber(index)
        for name in names:
            if name not in self:
                raise NoName(name)
        self._happen(f"misread {index}", self._misreadings[index], names or tuple(self._state.kept))

    def __irshift__(self, other):
        if not isinstance(other, Misreading):
            raise BadTable("misreading")
        self._happen("read", other, tuple(self._state.kept))
        return self

    def _happen(self, head, misreading, names):
        """A misreading happens to the texts of some names."""
        kept = self._state.kept
        chosen = [name for name in kept if name in names]
        for name in chosen:
            at = misreading.first_barred(kept[name])
            if at is not None:
                raise Barred(at)
        self._exchange(head, {name: bounded(misreading.image(kept[name])) for name in chosen})

    def repair(self):
        """Each text becomes the right text behind it. Returns the names whose texts became others."""
        kept = self._state.kept
        return self._exchange("repair", {name: repaired(self._misreadings, self._right, kept[name]) for name in kept})

    def doubtful(self):
        """The names whose texts have no right text behind them, or several ones."""
        kept = self._state.kept
        return tuple([name for name in kept if len(right_ones(self._misreadings, self._right, kept[name])) != 1])

    def _exchange(self, head, fresh):
        """Puts some texts in the places of those under their names. Returns the names whose texts became others."""
        kept = self._state.kept
        others = [name for name in kept if name in fresh and fresh[name] != kept[name]]
        if others:
            self._change(" ".join([head] + others), {**kept, **fresh})
        return tuple(others)

    def _change(self, line, kept):
        """Exchanges the texts; the line tells it in the log."""
        self._state = State(kept, self._state.most, line, self._state)

    def undo(self):
        """Takes back the last change that was not taken back."""
        if self._state.before is None:
            raise Nothing()
        self._state = self._state.before

    @property
    def log(self):
        """What tells the changes that are not taken back."""
        lines = []
        state = self._state
        while state.before is not None:
            lines.append(state.line)
            state = state.before
        return tuple(lines[::-1])

    def trial(self):
        """A block behind which the store is as it was when the block began."""
        return Trial(self)

    def tried(self, work):
        """What a function returns for the store, which then is as it was."""
        with self.trial() as held:
            return work(held)


class State:
    """All that a store holds: its texts, names ascending, and how many names there can be.

    Besides, the line that tells the change which led here, and the state before it; None for both in the first state.
    """

    def __init__(self, kept, most, line, before):
        self.kept = kept
        self.most = most
        self.line = line
        self.before = before


class Trial:
    """A block behind which a store is as it was when the block began. It can stand within itself."""

    def __init__(self, store):
        self._store = store
        self._begun = None

    def __enter__(self):
        self._begun = Begun(self._store._state, self._begun)
        return self._store

    def __exit__(self, kind, value, trace):
        self._store._state = self._begun.state
        self._begun = self._begun.around


class Begun:
    """The state with which a block began, and the block around it."""

    def __init__(self, state, around):
        self.state = state
        self.around = around


def check_limit(value, least):
    """Raises an error for what cannot be the most names if there are so many."""
    if not is_between(value, least, MOST_NAMES):
        raise BadNumber(value)
