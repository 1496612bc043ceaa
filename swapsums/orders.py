"""Which shapes of one size are above and beneath one another."""

from swapsums.shapes import columns, shapes_of, size_of


def first_sums(shape, many):
    """The sums of a shape's first k parts, k from 0 to many (of all, where it has fewer)."""
    return [sum(shape[:k]) for k in range(many + 1)]


def is_above(one, other):
    """Whether the one shape is above the other."""
    if size_of(one) != size_of(other):
        return False
    many = max(len(one), len(other))
    return all(mine >= yours for mine, yours in zip(first_sums(one, many), first_sums(other, many)))


def meeting(one, other):
    """The greatest shape that is beneath both shapes."""
    many = max(len(one), len(other))
    # What is beneath both has no greater first sums than either; the lesser ones are a shape's own.
    lesser = [min(mine, yours) for mine, yours in zip(first_sums(one, many), first_sums(other, many))]
    return tuple(total - ahead for ahead, total in zip(lesser, lesser[1:]) if total > ahead)


def joining(one, other):
    """The least shape that is above both shapes."""
    # One shape is above another just where its columns are beneath the other one's.
    return columns(meeting(columns(one), columns(other)))


def beneath(shape):
    """The shapes straight beneath a shape, rising."""
    lower = [other for other in shapes_of(size_of(shape)) if other != shape and is_above(shape, other)]
    return [other for other in lower if not any(third != other and is_above(third, other) for third in lower)]
