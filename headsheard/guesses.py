"""Guesses: what a house takes for the counts of all starts."""

from headsheard.canon import is_whole, least_counts
from headsheard.errors import BadHouses
from headsheard.stilllevels import check_lamps, counts_at, least_numbers, still_numbers


def _first_level(view, lamps):
    """The first level that has still numbers, and these; a couple of None without one."""
    check_lamps(lamps)
    for level in range(view.round):
        numbers = still_numbers(view, level, lamps)
        if numbers is not None:
            return level, numbers
    return None, None


def first_still(view, lamps=1):
    """The first level that has still numbers, or None."""
    level, _ = _first_level(view, lamps)
    return level


def guess_counts(view, lamps=1):
    """The counts that the first still level stands for, or None."""
    level, numbers = _first_level(view, lamps)
    return None if level is None else counts_at(view, level, numbers)


def find_shares(view):
    """The shares that the first level with least numbers stands for, or None."""
    for level in range(view.round):
        numbers = least_numbers(view, level)
        if numbers is not None:
            return least_counts(counts_at(view, level, numbers))
    return None


def seen_starts(view):
    """The starts that the house has met."""
    return view.levels[0]


def _check_houses(houses, least, most):
    if not is_whole(houses, least, most):
        raise BadHouses(houses)


def surely_from(houses, starts=2):
    """The round from which on guesses are right in joined nets of so many houses with so many unlike starts."""
    _check_houses(houses, 1, None)
    _check_houses(starts, 1, max(2, houses))
    return max(1, 2 * houses - starts)


def words_from(houses):
    """The round from which on all starts are seen in joined nets of so many houses."""
    _check_houses(houses, 1, None)
    return houses - 1
