"""ROWs of beads that TURNINGS make alike."""

from swapsums.meaning import arranged
from swapsums.ratios import ONE
from swapsums.turnings import behind, turnings_sum
from swapsums.values import all_alike


def classes_of(n, turnings, content):
    """The least ROW of each CLASS of the ROWs of n beads with this content, rising."""
    letters = tuple(letter for letter, many in enumerate(content) for bead in range(many))
    return sorted([row for row in arranged(letters, n) if is_least(row, turnings)])


def is_least(row, turnings):
    """Whether none of its CLASS is less than a ROW."""
    return all(row <= behind(row, order) for order in turnings)


def classes_many(n, turnings, content):
    """How many CLASSes the ROWs of n beads with this content fall into."""
    return len(classes_of(n, turnings, content))


def colours_many(n, turnings, k):
    """How many CLASSes the ROWs of n letters from 0 to k - 1 fall into."""
    many, bottom = all_alike(("powers", turnings_sum(n, turnings)), k, ONE)
    return many
