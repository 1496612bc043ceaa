"""POLYs of n letters: tuples of pairs (POWERS, RATIO), POWERS rising."""

from swapsums.plain import is_rising, is_whole
from swapsums.ratios import NOUGHT, ONE, plus, power, times
from swapsums.sums import added, are_terms, scaled, sum_of, terms_times

# A POLY is kept as a SUM is, with POWERS where shapes stand: what adds and scales SUMs does so with POLYs.


def is_powers(n, thing):
    """Whether any plain thing is POWERS of n letters."""
    if not isinstance(thing, tuple) or len(thing) != n:
        return False
    return all(is_whole(many) and many >= 0 for many in thing)


def is_poly(n, thing):
    """Whether any plain thing is a POLY of n letters."""
    if not are_terms(thing) or not all(is_powers(n, powers) for powers, number in thing):
        return False
    return is_rising([powers for powers, number in thing])


def poly_of(n, pairs):
    """The POLY of n letters to which pairs (POWERS, RATIO) come, in whatever order."""
    return sum_of(pairs)


def poly_added(one, other):
    """The sum of two POLYs of as many letters."""
    return added(one, other)


def poly_times(one, other):
    """The product of two POLYs of as many letters."""
    return terms_times(one, other, powers_times)


def powers_times(one, other):
    """The POWERS of the product of what two POWERS stand for."""
    return tuple(many + more for many, more in zip(one, other))


def poly_scaled(number, poly):
    """The product of a RATIO and a POLY."""
    return scaled(number, poly)


def value_of(poly, values):
    """The value of a POLY with RATIOs in the place of its letters."""
    told = NOUGHT
    for powers, number in poly:
        told = plus(told, times(number, powers_value(powers, values)))
    return told


def powers_value(powers, values):
    """The product of the values, each to its power."""
    product = ONE
    for many, value in zip(powers, values):
        product = times(product, power(value, many))
    return product


def exchanged(poly, order):
    """The POLY in which each letter i is called order[i]."""
    return sum_of([(powers_exchanged(powers, order), number) for powers, number in poly])


def powers_exchanged(powers, order):
    """The POWERS in which what stood at place i stands at place order[i]."""
    called = list(powers)
    for many, place in zip(powers, order):
        called[place] = many
    return tuple(called)


def least_moving(n, poly):
    """The least i such that the exchange of the letters i and i + 1 changes a POLY, or None."""
    for i in range(n - 1):
        order = tuple(range(i)) + (i + 1, i) + tuple(range(i + 2, n))
        if exchanged(poly, order) != poly:
            return i
    return None


def stays(n, poly):
    """Whether each exchange of two letters leaves a POLY as it is."""
    # Each exchange of two letters is some exchanges of neighbours, one behind the other.
    return least_moving(n, poly) is None
