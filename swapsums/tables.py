"""SKEWs, and TABLES filled with letters."""

from swapsums.errors import TooMany
from swapsums.plain import is_falling, is_pair, is_whole
from swapsums.shapes import columns, is_shape, is_within

MOST_TABLES = 1000


def is_skew(thing):
    """Whether any plain thing is a SKEW."""
    if not is_pair(thing) or not is_shape(thing[0]) or not is_shape(thing[1]):
        return False
    return is_within(thing[1], thing[0])


def row_starts(skew):
    """The first column of each row of a SKEW."""
    outer, inner = skew
    return inner + (0,) * (len(outer) - len(inner))


def is_table(skew, n, thing):
    """Whether any plain thing is a TABLE of a SKEW with n letters."""
    outer, starts = skew[0], row_starts(skew)
    if not isinstance(thing, tuple) or len(thing) != len(outer):
        return False
    if not all(is_row(n, end - start, row) for start, end, row in zip(starts, outer, thing)):
        return False
    return all(is_over(starts[i - 1], thing[i - 1], starts[i], thing[i]) for i in range(1, len(outer)))


def is_row(n, many, thing):
    """Whether any plain thing is a tuple of so many of n letters, none less than the one on its left."""
    if not isinstance(thing, tuple) or len(thing) != many:
        return False
    return all(is_whole(letter) and 0 <= letter < n for letter in thing) and is_falling(thing[::-1])


def is_over(start, row, lower_start, lower_row):
    """Whether each letter of a row is less than the one straight beneath it in the lower row."""
    first = max(start, lower_start)
    end = min(start + len(row), lower_start + len(lower_row))
    return all(row[column - start] < lower_row[column - lower_start] for column in range(first, end))


def tables_of(skew, n):
    """All TABLES of a SKEW with n letters, rising, or TooMany."""
    return filled(skew, n, MOST_TABLES)


def filled(skew, n, most):
    """All TABLES of a SKEW with n letters, rising; TooMany where there are more than most (None: never)."""
    grown = [()]
    for left, above, lower in ties_of(skew):
        grown = [letters + (letter,) for letters in grown for letter in fitting(letters, left, above, n - lower)]
        # Each of these can be filled to the end, so there will be no fewer.
        if most is not None and len(grown) > most:
            raise TooMany("tables")
    return [in_rows(skew, letters) for letters in grown]


def ties_of(skew):
    """Of each box, row by row: the numbers of the boxes on its left and straight above it, or None where there is
    none, and how many boxes are beneath it in its column."""
    heights = columns(skew[0])
    boxes = [(row, column) for row, start in enumerate(row_starts(skew)) for column in range(start, skew[0][row])]
    numbers = {box: number for number, box in enumerate(boxes)}
    return [(numbers.get((row, column - 1)), numbers.get((row - 1, column)), heights[column] - 1 - row)
            for row, column in boxes]


def fitting(letters, left, above, end):
    """The letters below end that may stand in the next box, by what its neighbours have."""
    least = 0 if left is None else letters[left]
    if above is not None:
        least = max(least, letters[above] + 1)
    return list(range(least, end))


def in_rows(skew, letters):
    """The rows of a SKEW with these letters, one behind the other."""
    rows = []
    used = 0
    for start, end in zip(row_starts(skew), skew[0]):
        rows.append(letters[used:used + end - start])
        used += end - start
    return tuple(rows)


def content_of(n, table):
    """How often each of n letters comes in a TABLE."""
    return tuple(sum(row.count(letter) for row in table) for letter in range(n))
