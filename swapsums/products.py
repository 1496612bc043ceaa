"""SUMs of one way multiplied."""

from swapsums.latticed import latticed
from swapsums.meaning import without
from swapsums.ratios import ONE, times
from swapsums.shapes import is_within, shape_of, shapes_of, size_of
from swapsums.sums import scaled, sum_of


def times_sum(way, one, other):
    """The SUM of a way that means the product of what two SUMs of it mean."""
    pairs = []
    for shape, number in one:
        for second, worth in other:
            pairs.extend(scaled(times(number, worth), shapes_product(way, shape, second)))
    return sum_of(pairs)


def shapes_product(way, one, other):
    """The SUM of a way that two shapes of it come to, multiplied."""
    if way == "tables":
        return counted_sum(one, other, tables_number)
    if way == "shapes":
        return counted_sum(one, other, shapes_number)
    return ((shape_of(one + other), ONE),)


def counted_sum(one, other, number_of):
    """The SUM of all shapes of both sizes together, each with its number in the product."""
    return sum_of([(shape, (number_of(shape, one, other), 1)) for shape in shapes_of(size_of(one) + size_of(other))])


def tables_number(outer, one, other):
    """How often an outer shape comes in the product of two shapes by tables."""
    return len(latticed((outer, one), other)) if is_within(one, outer) else 0


def shapes_number(shape, one, other):
    """In how many ways a shape is a sum, place by place, of the parts and noughts of one and of the other."""
    counts = {(one, other): 1}
    for part in shape:
        grown = {}
        for mine, yours in counts:
            for left in part_shared(part, mine, yours):
                grown[left] = grown.get(left, 0) + counts[(mine, yours)]
        counts = grown
    return counts.get(((), ()), 0)


def part_shared(part, mine, yours):
    """What is left of two tuples where a part of each, or of one of them alone, makes up this part, each once."""
    told = []
    if part in mine:
        told.append((without(mine, part), yours))
    if part in yours:
        told.append((mine, without(yours, part)))
    for less in sorted(set(mine)):
        if part - less in yours:
            told.append((without(mine, less), without(yours, part - less)))
    return told
