"""SUMs turned: choices taken as repeats."""

from swapsums.leading import led


def turned_sum(way, some):
    """A SUM of a way turned, a SUM of the same way."""
    return led("repeats", way, led(way, "choices", some))
