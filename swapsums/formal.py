"""FORMAL SUMs: products of FACTORs with their RATIOs, in which nothing is worked out."""

from swapsums.letters import poly_times
from swapsums.meaning import each_once, shape_meant
from swapsums.plain import is_falling, is_pair, is_rising, is_whole
from swapsums.shapes import is_shape
from swapsums.sums import added, are_terms, spread, sum_of, terms_times

# A FORMAL SUM is kept as a SUM is, with FACTORS where shapes stand. A FACTOR's WAY is its word with an s behind it.
NUMBER_WORDS = ("power", "choice", "repeat")
SHAPE_WORDS = ("table", "shape")


def is_factor(thing):
    """Whether any plain thing is a FACTOR."""
    if not is_pair(thing):
        return False
    word, part = thing
    if word in NUMBER_WORDS:
        return is_whole(part) and part >= 1
    return word in SHAPE_WORDS and is_shape(part) and part != ()


def are_factors(thing):
    """Whether any plain thing is FACTORS."""
    return isinstance(thing, tuple) and all(is_factor(factor) for factor in thing) and is_falling(thing[::-1])


def is_formal(thing):
    """Whether any plain thing is a FORMAL SUM."""
    if not are_terms(thing) or not all(are_factors(factors) for factors, number in thing):
        return False
    return is_rising([factors for factors, number in thing])


def formal_of(telling):
    """The FORMAL SUM of a TELLING."""
    way, some = telling
    return sum_of([(shape_factors(way[:-1], shape), number) for shape, number in some])


def shape_factors(word, shape):
    """The FACTORS of this word that a shape stands for."""
    if word in NUMBER_WORDS:
        return tuple((word, part) for part in sorted(shape))
    return ((word, shape),) if shape else ()


def factors_times(one, other):
    """The FACTORS of both, put together in their order."""
    return tuple(sorted(one + other))


def formal_added(one, other):
    """The sum of two FORMAL SUMs."""
    return added(one, other)


def formal_times(one, other):
    """The product of two FORMAL SUMs."""
    return terms_times(one, other, factors_times)


def formal_meant(n, formal):
    """What a FORMAL SUM means with n letters."""
    return spread(formal, lambda factors: factors_meant(n, factors))


def factors_meant(n, factors):
    """The product of what FACTORS mean with n letters."""
    product = each_once(n, [(0,) * n])
    for word, part in factors:
        shape = part if word in SHAPE_WORDS else (part,)
        product = poly_times(product, shape_meant(word + "s", shape, n))
    return product
