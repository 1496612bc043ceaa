"""Shapes grown by strips, and TABLES counted by them."""

from swapsums.shapes import columns, is_within, size_of, without_noughts


def row_strips(shape, k):
    """The shapes with k boxes more, no two of these in one column, rising."""
    grown = [((), k)]
    for i in range(len(shape) + 1):
        part = shape[i] if i < len(shape) else 0
        # A row may not reach beneath a new box of the row ahead.
        room = shape[i - 1] - part if i > 0 else k
        grown = [(parts + (part + more,), left - more) for parts, left in grown for more in range(min(room, left) + 1)]
    return sorted([without_noughts(parts) for parts, left in grown if left == 0])


def column_strips(shape, k):
    """The shapes with k boxes more, no two of these in one row, rising."""
    return sorted([columns(other) for other in row_strips(columns(shape), k)])


def counted(skew, content):
    """How many TABLES of a SKEW have just this content."""
    outer, inner = skew
    if sum(content) != size_of(outer) - size_of(inner):
        return 0
    # The boxes with letters up to i make a shape; the letter i's own are a row strip of it.
    counts = {inner: 1}
    for k in content:
        grown = {}
        for shape in counts:
            for other in row_strips(shape, k):
                if is_within(other, outer):
                    grown[other] = grown.get(other, 0) + counts[shape]
        counts = grown
    return counts.get(outer, 0)
