"""Numbers: after how many misreadings by the same one a right text can be another right text."""

from blindrepair.errors import BadNumber
from blindrepair.letters import is_between, is_integer
from blindrepair.merging import check_one_to_one
from blindrepair.powers import Powers
from blindrepair.verdicts import clash_text

GREATEST = 10 ** 60


class Numbers:
    """The numbers from 1 on after which some right text is another right text. From one on they come again."""

    def __init__(self, truths, period):
        self.truths = truths
        self._period = period

    @property
    def begin(self):
        """The number from which on the truths come again."""
        return len(self.truths) + 1 - self._period

    @property
    def period(self):
        """After how many numbers more they do."""
        return self._period

    def __contains__(self, x):
        if not is_integer(x) or x < 1:
            return False
        if x <= len(self.truths):
            return self.truths[x - 1]
        return self.truths[self.begin - 1 + (x - self.begin) % self._period]

    def __len__(self):
        return len(self.truths)

    def __bool__(self):
        return any(self.truths)

    def __eq__(self, other):
        return isinstance(other, Numbers) and self.truths == other.truths and self._period == other._period

    def walk(self, first=1):
        """The numbers from first on, ascending, as far as there are further ones."""
        check_number(first)
        again = any(self.truths[self.begin - 1:])
        at = first
        while again or at < self.begin:
            if at in self:
                yield at
            at += 1


def numbers_of(misreading, right):
    """The Numbers of a misreading and a right set."""
    powers = Powers(misreading, right)
    truths = [clash_text(right, effect) is not None for effect in powers]
    begin = powers.begin
    if begin == 0:
        # 0 is none of the numbers, so the beginning is a whole period later at most: that at 1 will do.
        truths.append(truths[0])
        begin = 1
    period = least_period(truths[begin:])
    while begin > 1 and truths[begin - 1] == truths[begin - 1 + period]:
        begin -= 1
    return Numbers(tuple(truths[1:begin + period]), period)


def least_period(truths):
    """The least number after which truths come again if they all come again and again."""
    size = len(truths)
    for period in range(1, size):
        if truths[period:] + truths[:period] == truths:
            return period
    return size


def turned_by(misreading, right, k):
    """The least right text that so many misreadings turn into another right one, None if there is none."""
    powers = Powers(misreading, right)
    check_number(k)
    return clash_text(right, powers(k))


def settles(misreading, right, q):
    """Whether no multiple of a number is among the numbers."""
    numbers = settling(misreading, right)
    check_number(q)
    return has_no_multiple(numbers, q)


def least_remainder(misreading, right):
    """The least number no multiple of which is among the numbers, None if there is none."""
    numbers = settling(misreading, right)
    # If there is one, a multiple of the period that is not less than the beginning is one, too.
    for q in range(1, len(numbers) + 1):
        if has_no_multiple(numbers, q):
            return q
    return None


def settling(misreading, right):
    """The Numbers, if the misreading is one to one."""
    numbers = numbers_of(misreading, right)
    check_one_to_one(misreading)
    return numbers


def has_no_multiple(numbers, q):
    """Whether no multiple of a number is among some numbers."""
    # So many multiples of q reach the beginning, and then go on for a whole period of periods.
    return not any([at * q in numbers for at in range(1, len(numbers) + 1)])


def check_number(value):
    """Raises an error for what is no integer from 1 to the greatest number."""
    if not is_between(value, 1, GREATEST):
        raise BadNumber(value)
