"""What the TABLES of a SKEW come to, and TELLINGs taken off one another."""

from swapsums.latticed import latticed
from swapsums.leading import led
from swapsums.ratios import times
from swapsums.shapes import is_within, shapes_of, size_of
from swapsums.sums import scaled, sum_of


def skew_sum(skew):
    """The SUM of tables that means the sum over all TABLES of a SKEW."""
    boxes = size_of(skew[0]) - size_of(skew[1])
    return sum_of([(shape, (len(latticed(skew, shape)), 1)) for shape in shapes_of(boxes)])


def taken_off(one, other):
    """The SUM of tables that pairs with anything as the one TELLING does with the other's product with it."""
    pairs = []
    inners = led(other[0], "tables", other[1])
    for outer, number in led(one[0], "tables", one[1]):
        for inner, worth in inners:
            if is_within(inner, outer):
                pairs.extend(scaled(times(number, worth), skew_sum((outer, inner))))
    return sum_of(pairs)
