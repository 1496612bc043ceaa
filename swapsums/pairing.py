"""TELLINGs paired: shapes with repeats."""

from swapsums.leading import led
from swapsums.ratios import NOUGHT, ONE, plus, times
from swapsums.shapes import weight
from swapsums.sums import number_at
from swapsums.turning import turned_sum


def paired(one, other):
    """The RATIO to which two TELLINGs pair."""
    repeats = led(other[0], "repeats", other[1])
    told = NOUGHT
    for shape, number in led(one[0], "shapes", one[1]):
        told = plus(told, times(number, number_at(repeats, shape)))
    return told


def mate(way, shape):
    """The TELLING that pairs to 1 with a shape by a way, to 0 with each other shape by it."""
    alone = ((shape, ONE),)
    if way == "shapes":
        return ("repeats", alone)
    if way == "repeats":
        return ("shapes", alone)
    if way == "tables":
        return ("tables", alone)
    if way == "powers":
        return ("powers", ((shape, (1, weight(shape))),))
    return ("shapes", turned_sum("shapes", alone))


def number_by(way, telling, shape):
    """The number by pairing: what a TELLING and the mate of a way and a shape pair to."""
    return paired(telling, mate(way, shape))
