"""WAYs, SUMs and TELLINGs."""

from swapsums.plain import is_pair, is_rising
from swapsums.ratios import NOUGHT, is_ratio, plus, times
from swapsums.shapes import is_shape, size_of

WAYS = ("shapes", "powers", "choices", "repeats", "tables")


def is_way(thing):
    """Whether any plain thing is a WAY."""
    return isinstance(thing, str) and thing in WAYS


def are_terms(thing):
    """Whether any plain thing is a tuple of pairs of anything and a RATIO that isn't nought."""
    if not isinstance(thing, tuple):
        return False
    return all(is_pair(term) and is_ratio(term[1]) and term[1] != NOUGHT for term in thing)


def is_sum(thing):
    """Whether any plain thing is a SUM."""
    if not are_terms(thing) or not all(is_shape(shape) for shape, number in thing):
        return False
    return is_rising([shape for shape, number in thing])


def is_telling(thing):
    """Whether any plain thing is a TELLING."""
    return is_pair(thing) and is_way(thing[0]) and is_sum(thing[1])


def sum_of(pairs):
    """The SUM to which pairs (SHAPE, RATIO) come, in whatever order."""
    found = {}
    for shape, number in pairs:
        found[shape] = plus(found.get(shape, NOUGHT), number)
    return tuple((shape, found[shape]) for shape in sorted(found) if found[shape] != NOUGHT)


def added(one, other):
    """The SUM to which two SUMs come."""
    return sum_of(one + other)


def scaled(number, some):
    """The SUM with each ratio times the number."""
    return sum_of([(shape, times(number, worth)) for shape, worth in some])


def spread(some, terms_of):
    """The SUM to which a SUM comes where each shape stands for the pairs terms_of(shape)."""
    pairs = []
    for shape, number in some:
        pairs.extend(scaled(number, terms_of(shape)))
    return sum_of(pairs)


def terms_times(one, other, together):
    """The SUM of all products of pairs of two SUMs, together(key, key) being what two shapes, or what stands for
    them, come to."""
    return sum_of([(together(mine, yours), times(number, worth)) for mine, number in one for yours, worth in other])


def greatest_size(some):
    """The greatest size of a SUM's shapes, 0 where it has none."""
    return max([size_of(shape) for shape, number in some], default=0)


def of_size(some, n):
    """The pairs of a SUM whose shapes are of size n."""
    return tuple((shape, number) for shape, number in some if size_of(shape) == n)


def number_at(some, shape):
    """The RATIO of a SUM at a shape, nought where none stands there."""
    for other, number in some:
        if other == shape:
            return number
    return NOUGHT
