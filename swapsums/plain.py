"""What every look at a plain thing needs."""


def is_whole(thing):
    """Whether a thing is a whole number."""
    # Python counts truths as ints, the document doesn't.
    return isinstance(thing, int) and not isinstance(thing, bool)


def is_pair(thing):
    """Whether a thing is a tuple of two."""
    return isinstance(thing, tuple) and len(thing) == 2


def is_rising(things):
    """Whether each of these, which Python can sort, is greater than the one ahead."""
    return all(ahead < thing for ahead, thing in zip(things, things[1:]))


def is_falling(numbers):
    """Whether none of these is greater than the one ahead."""
    return all(ahead >= number for ahead, number in zip(numbers, numbers[1:]))
