"""Powers: the effects of any number of misreadings by the same one."""

from blindrepair.checks import check_misreading, check_right
from blindrepair.effects import MOST_EFFECTS, unread
from blindrepair.errors import BadNumber, TooMany
from blindrepair.letters import is_integer


class Powers:
    """The effects of 0, 1, 2 and so on misreadings. From a number on they come again and again."""

    def __init__(self, misreading, right):
        check_misreading(misreading)
        check_right(right)
        effect = unread([misreading], right)
        numbers = {}
        found = []
        while effect.told not in numbers:
            if len(found) == MOST_EFFECTS:
                raise TooMany("effects", MOST_EFFECTS)
            numbers[effect.told] = len(found)
            found.append(effect)
            effect = effect.begun_by(misreading)
        self._begin = numbers[effect.told]
        self._effects = tuple(found)

    @property
    def begin(self):
        """The number from which on the effects come again."""
        return self._begin

    @property
    def period(self):
        """After how many misreadings more they do."""
        return len(self._effects) - self._begin

    def __len__(self):
        return len(self._effects)

    def __iter__(self):
        return iter(self._effects)

    def __call__(self, k):
        if not is_integer(k) or k < 0:
            raise BadNumber(k)
        if k < len(self._effects):
            return self._effects[k]
        return self._effects[self._begin + (k - self._begin) % self.period]

    def turns(self, text, k):
        """Whether any value is a text that k misreadings turn into a right text."""
        effect = self(k)
        return text in effect
