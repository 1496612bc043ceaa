"""SUMs split by letters in two rows, and laid as one again."""

from swapsums.products import times_sum
from swapsums.ratios import ONE
from swapsums.shapes import is_within, often, shape_of, shapes_of, size_of
from swapsums.skews import skew_sum
from swapsums.sums import spread, sum_of


def split_in_two(way, some):
    """The SPLIT that means with letters in two rows what a SUM of a way means with all of them."""
    # A SPLIT is reckoned as a SUM is, with pairs of shapes where shapes stand.
    pairs = spread(some, lambda shape: shape_split(way, shape))
    return tuple((one, other, number) for (one, other), number in pairs)


def shape_split(way, shape):
    """The pairs ((SHAPE, SHAPE), RATIO) of one shape's SPLIT, alike ones not yet added."""
    if way == "tables":
        inners = shapes_within(shape)
        return [((inner, other), number) for inner in inners for other, number in skew_sum((shape, inner))]
    grown = [((), ())]
    for cuts in cuts_of(way, shape):
        grown = [(one + first, other + second) for one, other in grown for first, second in cuts]
    return [((shape_of(one), shape_of(other)), ONE) for one, other in grown]


def shapes_within(outer):
    """All shapes that lie within a shape."""
    return [shape for size in range(size_of(outer) + 1) for shape in shapes_of(size) if is_within(shape, outer)]


def cuts_of(way, shape):
    """Of each part the pairs of what goes to the first and to the second row, noughts too."""
    if way == "shapes":
        # Parts alike go together, so that each outcome comes once.
        return [[((part,) * k, (part,) * (many - k)) for k in range(many + 1)] for part, many in often(shape)]
    if way == "powers":
        return [[((part,), ()), ((), (part,))] for part in shape]
    return [[((k,), (part - k,)) for k in range(part + 1)] for part in shape]


def laid_as_one(way, triples):
    """The SUM of a way that means what a SPLIT means with the same letters in both rows."""
    pairs = []
    for one, other, number in triples:
        pairs.extend(times_sum(way, ((one, number),), ((other, ONE),)))
    return sum_of(pairs)
