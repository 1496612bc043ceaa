"""TELLINGs written as texts, and read from them."""

from swapsums.errors import NoText
from swapsums.plain import is_falling
from swapsums.ratios import is_ratio
from swapsums.sums import is_way

PART_FIGURES = 3
RATIO_FIGURES = 400


def shown(way, some):
    """The text of a TELLING."""
    return " ".join([way] + [shape_text(shape) + ":" + ratio_text(number) for shape, number in some])


def shape_text(shape):
    """The text of a SHAPE."""
    return ".".join([str(part) for part in shape]) if shape else "-"


def ratio_text(number):
    """The text of a RATIO."""
    top, bottom = number
    return str(top) if bottom == 1 else str(top) + "/" + str(bottom)


def read(text):
    """The TELLING that a text writes, or NoText with the number of the first word that can't stand."""
    words = text.split(" ")
    if not is_way(words[0]):
        raise NoText(0)
    pairs = []
    for at in range(1, len(words)):
        pair = read_pair(words[at])
        if pair is None or (pairs and not pairs[-1][0] < pair[0]):
            raise NoText(at)
        pairs.append(pair)
    return (words[0], tuple(pairs))


def read_pair(word):
    """The pair (SHAPE, RATIO) that a word writes, or None."""
    ahead, colon, behind = word.partition(":")
    shape = read_shape(ahead)
    number = read_ratio(behind, RATIO_FIGURES)
    if shape is None or number is None:
        return None
    return (shape, number)


def read_shape(text):
    """The SHAPE that a text writes, or None."""
    if text == "-":
        return ()
    parts = [read_figures(part, PART_FIGURES) for part in text.split(".")]
    if None in parts or not is_falling(parts):
        return None
    return tuple(parts)


def read_ratio(text, most):
    """The RATIO, not nought, that a text writes, its top and bottom of at most so many figures, or None."""
    ahead, stroke, behind = text.partition("/")
    sign, figures = (-1, ahead[1:]) if ahead.startswith("-") else (1, ahead)
    top = read_figures(figures, most)
    bottom = read_figures(behind, most) if stroke else 1
    # A bottom 1 is never written; None is no number of a RATIO.
    if (stroke and bottom == 1) or not is_ratio((top, bottom)):
        return None
    return (sign * top, bottom)


def read_figures(text, most):
    """The whole number from 1 on that at most so many figures write, no 0 ahead, or None."""
    if not 1 <= len(text) <= most or text[0] == "0":
        return None
    # isdigit lets figures of other scripts by.
    if not all(figure in "0123456789" for figure in text):
        return None
    return int(text)
