"""Whole numbers, starts and counts of houses, each in one form."""

from math import gcd

from headsheard.errors import BadCounts
from headsheard.plain import is_couple, is_integer, is_sequence

MOST_WORDS = 4


def is_whole(thing, low=None, high=None):
    """Whether the thing is an integer, not below `low` and not above `high`; None bounds nothing."""
    if not is_integer(thing):
        return False
    return (low is None or low <= thing) and (high is None or thing <= high)


def compositions(total, places):
    """All tuples of so many integers of at least 0 with this sum, ascending."""
    if places == 0 or total < 0:
        return ((),) if total == 0 else ()
    begun = [((), total)]
    for _ in range(places - 1):
        begun = [(row + (first,), left - first) for row, left in begun for first in range(left + 1)]
    return tuple([row + (left,) for row, left in begun])


def is_start(thing):
    """Whether the thing is a start, as a list or a tuple."""
    return is_couple(thing) and is_whole(thing[0], 0, 1) and is_whole(thing[1], 0, MOST_WORDS - 1)


def check_counts(counts):
    """The counts of a list or tuple of couples in any order; BadCounts if they are none."""
    if not is_sequence(counts):
        raise BadCounts("shape")
    count_of = {}
    for entry in counts:
        if not is_couple(entry):
            raise BadCounts("shape")
        if not is_start(entry[0]):
            raise BadCounts("start")
        if not is_whole(entry[1], 1):
            raise BadCounts("count")
        start = tuple(entry[0])
        if start in count_of:
            raise BadCounts("twice")
        count_of[start] = entry[1]
    return _ascending(count_of)


def _ascending(count_of):
    """The counts in which each start has its number; a start with the number 0 does not stand in them."""
    return tuple([(start, count_of[start]) for start in sorted(count_of) if count_of[start] > 0])


def _added(starts_and_numbers):
    """The sum of the numbers of each start."""
    count_of = {}
    for given, number in starts_and_numbers:
        start = tuple(given)
        count_of[start] = count_of.get(start, 0) + number
    return count_of


def counts_of_starts(starts):
    """The counts of a sequence of starts."""
    return _ascending(_added([(start, 1) for start in starts]))


def heads_of(counts):
    """How many houses there are."""
    return sum([count for _, count in counts])


def lit_of(counts):
    """How many houses bear a lamp."""
    return sum([count for start, count in counts if start[0] == 1])


def words_of(counts, words):
    """How many houses bear each of the words, lit or not."""
    numbers = [0] * words
    for start, count in counts:
        numbers[start[1]] += count
    return tuple(numbers)


def joined_counts(one, other):
    """The counts of the houses of both."""
    return _ascending(_added(list(one) + list(other)))


def less_counts(one, other):
    """The counts of the houses of one without those of the other."""
    count_of = _added(list(one) + [(start, -count) for start, count in other])
    if any([number < 0 for number in list(count_of.values())]):
        raise BadCounts("count")
    return _ascending(count_of)


def times_counts(counts, times):
    """Each count so many times."""
    return tuple([(tuple(start), count * times) for start, count in counts])


def least_counts(counts):
    """The shares: the counts divided by their greatest common divisor."""
    divisor = 0
    for _, count in counts:
        divisor = gcd(divisor, count)
    return tuple([(tuple(start), count // divisor) for start, count in counts])


def starts_of(words):
    """All starts with a word below `words`: the unlit ones first."""
    return tuple([(lit, word) for lit in range(2) for word in range(words)])
