"""RULES: FORMAL SUMs that mean nought with each number of letters."""

from swapsums.formal import factors_times, shape_factors
from swapsums.meaning import arranged, without
from swapsums.plain import is_pair, is_whole
from swapsums.ratios import ONE
from swapsums.shapes import is_shape, shape_of, size_of
from swapsums.sums import sum_of

MOST = 8
MOST_ROWS = 5


def is_step(thing):
    """Whether any plain thing is a number that a RULE may have."""
    return is_whole(thing) and 1 <= thing <= MOST


def is_small(thing):
    """Whether any plain thing is a SHAPE that a RULE may have."""
    return is_shape(thing) and size_of(thing) <= MOST


def is_rule(word, thing):
    """Whether any two plain things are a RULE."""
    if word in ("both", "power-repeat", "power-choice"):
        return is_step(thing)
    if word == "table":
        return is_small(thing) and 1 <= len(thing) <= MOST_ROWS
    return word == "shape" and is_pair(thing) and is_step(thing[0]) and is_small(thing[1])


def rule_sum(word, thing):
    """The FORMAL SUM of a RULE."""
    if word == "both":
        return sum_of(both_terms(thing))
    if word == "power-repeat":
        return sum_of(power_terms("repeat", thing))
    if word == "power-choice":
        return sum_of(power_terms("choice", thing))
    if word == "table":
        return sum_of(table_terms(thing))
    k, shape = thing
    return sum_of(shape_terms(k, shape))


def product_of(numbered):
    """The FACTORS of pairs (word, k), those with k nought, which stand for one, left out."""
    return tuple(sorted([(word, k) for word, k in numbered if k > 0]))


def sign(k):
    """-1 so many times multiplied."""
    return -1 if k % 2 else 1


def both_terms(n):
    """Choices times repeats, by turns added and taken off."""
    return [(product_of([("choice", k), ("repeat", n - k)]), (sign(k), 1)) for k in range(n + 1)]


def power_terms(word, n):
    """n times the FACTOR of this word, repeat or choice, less powers times lesser ones."""
    terms = [(((word, n),), (n, 1))]
    for k in range(1, n + 1):
        taken = -1 if word == "repeat" else sign(k)
        terms.append((product_of([("power", k), (word, n - k)]), (taken, 1)))
    return terms


def table_terms(shape):
    """The table, less repeats by all orders of its rows."""
    many = len(shape)
    terms = [((("table", shape),), ONE)]
    for order in arranged(tuple(range(many)), many):
        lengths = [part - i + order[i] for i, part in enumerate(shape)]
        if min(lengths) >= 0:
            terms.append((product_of([("repeat", length) for length in lengths]), (-order_sign(order), 1)))
    return terms


def order_sign(order):
    """-1 for each two of an order that fall, multiplied."""
    return sign(sum([1 for i, later in enumerate(order) for ahead in order[:i] if ahead > later]))


def shape_terms(k, shape):
    """A power times a shape, less the shapes that have a part, or none, made greater by so much."""
    terms = [(factors_times((("power", k),), shape_factors("shape", shape)), ONE)]
    for part in [0] + sorted(set(shape)):
        grown = shape_of(without(shape + (0,), part) + (part + k,))
        terms.append(((("shape", grown),), (-grown.count(part + k), 1)))
    return terms
