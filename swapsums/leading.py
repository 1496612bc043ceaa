"""TELLINGs led from one way to another."""

from swapsums.meaning import part_powers
from swapsums.ratios import ONE, over
from swapsums.shapes import columns, shape_of, shapes_of, size_of
from swapsums.strips import counted
from swapsums.sums import added, scaled, spread, sum_of


def in_shapes(way, shape):
    """The SUM of shapes that is ONE with a shape by a way."""
    if way == "shapes":
        return ((shape, ONE),)
    if way == "tables":
        return sum_of([(other, (counted((shape, ()), other), 1)) for other in shapes_of(size_of(shape))])
    return sum_of([(other, (many, 1)) for other, many in product_numbers(way, shape).items()])


def product_numbers(way, shape):
    """The numbers, at all shapes of its size, of a shape by powers, choices or repeats."""
    numbers = {(): 1}
    size = 0
    for part in shape:
        size += part
        numbers = {other: sum(numbers[left] for left in lefts(way, part, other)) for other in shapes_of(size)}
    return numbers


def lefts(way, part, shape):
    """The shapes that are left of a shape where the POWERS that a part means are taken from its parts."""
    taken = part_powers(way, part, shape)
    return [shape_of([whole - many for whole, many in zip(shape, powers)]) for powers in taken]


def led(way, other, some):
    """The SUM of the other way that is ONE with a SUM of the one."""
    if way == other:
        return some
    return from_shapes(other, to_shapes(way, some))


def to_shapes(way, some):
    """The SUM of shapes that is ONE with a SUM of a way."""
    return spread(some, lambda shape: in_shapes(way, shape))


def from_shapes(way, some):
    """The SUM of a way that is ONE with a SUM of shapes."""
    if way == "shapes":
        return some
    if way == "powers":
        # A part taken together with another one makes a greater shape.
        return peeled(some, 0, lambda shape: in_shapes("powers", shape))
    if way == "choices":
        told = peeled(some, -1, lambda shape: in_shapes("choices", columns(shape)))
        return sum_of([(columns(shape), number) for shape, number in told])
    by_tables = peeled(some, -1, lambda shape: in_shapes("tables", shape))
    # By shapes the repeats have no end of their own, by tables each has itself as its least.
    return by_tables if way == "tables" else peeled(by_tables, 0, repeats_in_tables)


def repeats_in_tables(shape):
    """The SUM of tables that is ONE with a shape by repeats."""
    return sum_of([(other, (counted((other, ()), shape), 1)) for other in shapes_of(size_of(shape))])


def peeled(some, end, terms_of):
    """How often each SUM terms_of(shape), which has the shape at this end (0 the least, -1 the greatest of its
    size), is in a SUM: a SUM."""
    told = []
    left = some
    while left:
        shape, number = left[end]
        terms = terms_of(shape)
        top, bottom = over(number, terms[end][1])
        told.append((shape, (top, bottom)))
        left = added(left, scaled((-top, bottom), terms))
    return sum_of(told)


def are_one(one, other):
    """Whether two TELLINGs are ONE."""
    # Unlike SUMs of shapes never mean the same with enough letters.
    return to_shapes(one[0], one[1]) == to_shapes(other[0], other[1])
