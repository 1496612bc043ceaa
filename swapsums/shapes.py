"""SHAPEs: tuples of whole numbers from 1 on, none greater than the one ahead."""

from swapsums.plain import is_falling, is_whole


def is_shape(thing):
    """Whether any plain thing is a SHAPE."""
    if not isinstance(thing, tuple):
        return False
    return all(is_whole(part) and part >= 1 for part in thing) and is_falling(thing)


def size_of(shape):
    """The sum of a shape's parts."""
    return sum(shape)


def columns(shape):
    """The shape whose part at place k is how many parts of this one are greater than k."""
    if not shape:
        return ()
    return tuple(sum(1 for part in shape if part > k) for k in range(shape[0]))


def often(shape):
    """How often each part comes: pairs (part, how often), parts rising."""
    return tuple((part, shape.count(part)) for part in sorted(set(shape)))


def weight(shape):
    """The product, over the unlike parts, of the part so often and of 1, 2, .. to how often."""
    product = 1
    for part, many in often(shape):
        for count in range(1, many + 1):
            product *= part * count
    return product


def shapes_of(n):
    """All shapes of a size, rising."""
    return shapes_to(n, n)


def shapes_to(n, most):
    """All shapes of a size without a part above most, rising."""
    if n == 0:
        return [()]
    # Shapes of one size sort by their first parts, then by what is behind them.
    return [(first,) + rest for first in range(1, min(n, most) + 1) for rest in shapes_to(n - first, first)]


def is_within(inner, outer):
    """Whether the inner shape lies within the outer one."""
    return len(inner) <= len(outer) and all(part <= room for part, room in zip(inner, outer))


def without_noughts(numbers):
    """The SHAPE that falling numbers from 0 on are, without the noughts behind."""
    return tuple(number for number in numbers if number > 0)


def shape_of(numbers):
    """The SHAPE that has these numbers from 0 on as parts, in whatever order, noughts left out."""
    return without_noughts(sorted(numbers, reverse=True))
