"""RATIOs: pairs (top, bottom), lowest, the bottom from 1 on."""

from swapsums.errors import NoRatio
from swapsums.plain import is_pair, is_whole

NOUGHT = (0, 1)
ONE = (1, 1)


def common_divisor(one, other):
    """The greatest common divisor of two whole numbers, from 0 on."""
    one, other = abs(one), abs(other)
    while other:
        one, other = other, one % other
    return one


def is_ratio(thing):
    """Whether any plain thing is a RATIO."""
    if not is_pair(thing) or not is_whole(thing[0]) or not is_whole(thing[1]):
        return False
    return thing[1] >= 1 and common_divisor(thing[0], thing[1]) == 1


def ratio(top, bottom):
    """The RATIO of a top by a bottom, or NoRatio."""
    if bottom == 0:
        raise NoRatio()
    common = common_divisor(top, bottom)
    if bottom < 0:
        common = -common
    return (top // common, bottom // common)


def plus(one, other):
    """The sum of two RATIOs."""
    return ratio(one[0] * other[1] + other[0] * one[1], one[1] * other[1])


def minus(one, other):
    """The one RATIO less the other."""
    return ratio(one[0] * other[1] - other[0] * one[1], one[1] * other[1])


def times(one, other):
    """The product of two RATIOs."""
    return ratio(one[0] * other[0], one[1] * other[1])


def over(one, other):
    """The one RATIO by the other, or NoRatio where that is nought."""
    return ratio(one[0] * other[1], one[1] * other[0])


def is_less(one, other):
    """Whether the one RATIO is less than the other."""
    return one[0] * other[1] < other[0] * one[1]


def power(one, n):
    """The product of n times the one RATIO."""
    top, bottom = 1, 1
    # Powers of numbers without a common divisor have none either.
    for count in range(n):
        top *= one[0]
        bottom *= one[1]
    return (top, bottom)
