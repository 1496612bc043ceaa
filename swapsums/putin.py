"""SUMs of powers put in one another."""

from swapsums.leading import led
from swapsums.products import times_sum
from swapsums.ratios import ONE
from swapsums.sums import spread, sum_of


def lifted(k, some):
    """A SUM of powers with each part times k."""
    return sum_of([(tuple(part * k for part in shape), number) for shape, number in some])


def put_in(outer, inner):
    """The inner SUM of powers put in the outer one."""
    return spread(outer, lambda shape: put_in_shape(shape, inner))


def put_in_shape(shape, inner):
    """The product, over a shape's parts, of a SUM of powers lifted by the part."""
    product = (((), ONE),)
    for part in shape:
        product = times_sum("powers", product, lifted(part, inner))
    return product


def put_telling(outer, inner, way):
    """The SUM of a way that the inner TELLING put in the outer one is."""
    return led("powers", way, put_in(led(outer[0], "powers", outer[1]), led(inner[0], "powers", inner[1])))
