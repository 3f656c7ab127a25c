"""Amounts and strengths: exact fractions as couples of integers."""

from math import gcd

from headsheard.errors import BadStrength
from headsheard.plain import is_couple, is_integer

NONE = (0, 1)


def check_strength(thing):
    """The thing as a strength; BadStrength if it is none."""
    if not is_couple(thing):
        raise BadStrength("shape")
    top, bottom = thing
    if not is_integer(top) or not is_integer(bottom):
        raise BadStrength("whole")
    if top < 1 or bottom < 1:
        raise BadStrength("sign")
    if gcd(top, bottom) > 1:
        raise BadStrength("lowest")
    return (top, bottom)


def lowest(top, bottom):
    """The amount top / bottom."""
    divisor = gcd(top, bottom)
    return (top // divisor, bottom // divisor)


def plus(one, other):
    """The sum of two amounts."""
    return lowest(one[0] * other[1] + other[0] * one[1], one[1] * other[1])


def minus(one, other):
    """What is left of an amount if another one is taken from it."""
    if is_less(one, other):
        raise BadStrength("sign")
    return lowest(one[0] * other[1] - other[0] * one[1], one[1] * other[1])


def times(one, other):
    """The product of two amounts."""
    return lowest(one[0] * other[0], one[1] * other[1])


def over(one, other):
    """An amount divided by another one."""
    if other[0] == 0:
        raise BadStrength("sign")
    return lowest(one[0] * other[1], one[1] * other[0])


def is_less(one, other):
    """Whether an amount is less than another one, as fractions."""
    return one[0] * other[1] < other[0] * one[1]


def greatest(amounts):
    """The greatest of a sequence of amounts, zero if there is none."""
    best = NONE
    for amount in amounts:
        if is_less(best, amount):
            best = tuple(amount)
    return best


def total(amounts):
    """The sum of a sequence of amounts."""
    result = NONE
    for amount in amounts:
        result = plus(result, amount)
    return result
