"""Values in the place of letters."""

from swapsums.hooks import steps_down, tables_many
from swapsums.letters import value_of
from swapsums.meaning import meant
from swapsums.ratios import NOUGHT, plus, power, times
from swapsums.shapes import often, size_of


def told_at(telling, values):
    """The value of a TELLING's meaning with these values, one for each letter."""
    return value_of(meant(telling[0], telling[1], len(values)), values)


def all_alike(telling, n, value):
    """The value of a TELLING's meaning with n letters, each of the one value."""
    way, some = telling
    told = NOUGHT
    for shape, number in some:
        products = (products_many(way, shape, n), 1)
        told = plus(told, times(times(number, products), power(value, size_of(shape))))
    return told


def products_many(way, shape, n):
    """Of how many products of letters what a way and a shape mean with n letters is the sum."""
    if way == "tables":
        return tables_many(shape, n)
    if way == "shapes":
        alike = 1
        for part, many in often(shape):
            alike *= steps_down(many, many)
        return steps_down(n, len(shape)) // alike
    product = 1
    for part in shape:
        product *= part_products_many(way, part, n)
    return product


def part_products_many(way, part, n):
    """Of how many products of letters a part by powers, choices or repeats is the sum."""
    if way == "powers":
        return n
    # With repeats there are as many choices as there are without them among part - 1 letters more.
    end = n if way == "choices" else n + part - 1
    return steps_down(end, part) // steps_down(part, part)
