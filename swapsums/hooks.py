"""TABLES counted by hooks."""

from swapsums.shapes import columns, size_of


def hooks(shape):
    """The hooks of a shape's boxes, row by row."""
    heights = columns(shape)
    return tuple(tuple(part - column + heights[column] - row - 1 for column in range(part))
                 for row, part in enumerate(shape))


def hooks_product(shape):
    """The product of all hooks of a shape."""
    product = 1
    for row in hooks(shape):
        for hook in row:
            product *= hook
    return product


def tables_many(shape, n):
    """How many TABLES of a shape with n letters there are."""
    product = 1
    for row, part in enumerate(shape):
        for column in range(part):
            product *= n + column - row
    return product // hooks_product(shape)


def rising_many(shape):
    """How many TABLES of a shape have each of as many letters as its size once."""
    size = size_of(shape)
    return steps_down(size, size) // hooks_product(shape)


def steps_down(n, many):
    """The product of n, n - 1, .., so many numbers."""
    product = 1
    for k in range(many):
        product *= n - k
    return product
