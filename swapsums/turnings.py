"""TURNINGS: ORDERs of n places that are closed behind one another."""

from swapsums.plain import is_rising, is_whole
from swapsums.ratios import ratio
from swapsums.shapes import shape_of
from swapsums.sums import sum_of

MOST_ORDERS = 24


def is_order(n, thing):
    """Whether any plain thing is an ORDER of n places."""
    if not isinstance(thing, tuple) or not all(is_whole(place) for place in thing):
        return False
    return sorted(thing) == list(range(n))


def behind(one, other):
    """The tuple whose i-th is the one's at the place other[i]."""
    return tuple(one[place] for place in other)


def are_turnings(n, thing):
    """Whether any plain thing is TURNINGS of n places."""
    if not isinstance(thing, tuple) or not 1 <= len(thing) <= MOST_ORDERS:
        return False
    if not all(is_order(n, order) for order in thing) or not is_rising(thing):
        return False
    return all(behind(one, other) in thing for one in thing for other in thing)


def rounds_shape(order):
    """The SHAPE of an ORDER: the lengths of its ROUNDs."""
    gone = set()
    lengths = []
    for start in order:
        place = start
        many = 0
        while place not in gone:
            gone.add(place)
            place = order[place]
            many += 1
        # A place of a ROUND that was gone already begins none: a length of nought, which no SHAPE keeps.
        lengths.append(many)
    return shape_of(lengths)


def turnings_sum(n, turnings):
    """The SUM of powers with each SHAPE's share of the ORDERs."""
    share = ratio(1, len(turnings))
    return sum_of([(rounds_shape(order), share) for order in turnings])


def around_turnings(n):
    """The TURNINGS that move all n places around by as many."""
    return tuple(tuple((i + k) % n for i in range(n)) for k in range(n))
