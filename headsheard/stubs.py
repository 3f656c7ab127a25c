"""Stubs: ends of links with told sums, and the links that have them."""

from math import gcd

from headsheard.canon import is_whole
from headsheard.errors import BadStubs
from headsheard.plain import is_sequence
from headsheard.strengths import NONE, over, times, total


def _is_amount(thing):
    """Whether the thing is an amount, as a tuple."""
    if not isinstance(thing, tuple) or len(thing) != 2:
        return False
    return is_whole(thing[0], 0) and is_whole(thing[1], 1) and gcd(thing[0], thing[1]) == 1


def _check_stubs(stubs):
    if not is_sequence(stubs) or not all([_is_amount(stub) for stub in stubs]):
        raise BadStubs("stubs")


def stub_links(ones, others):
    """The links (i, j, strength) between the stubs of two lots, each shared out by the size of the other's."""
    _check_stubs(ones)
    _check_stubs(others)
    whole = total(ones)
    if whole != total(others):
        raise BadStubs("totals")
    return tuple([(i, j, over(times(one, other), whole)) for i, one in enumerate(ones) if one != NONE
                  for j, other in enumerate(others) if other != NONE])


def echo_links(stubs):
    """The links and echoes (i, j, strength) with i <= j within one lot, each stub shared out among all."""
    _check_stubs(stubs)
    whole = total(stubs)
    return tuple([(i, j, over(times(one, stubs[j]), whole)) for i, one in enumerate(stubs) if one != NONE
                  for j in range(i, len(stubs)) if stubs[j] != NONE])
