"""THINGS, numbers, WORDINGS and tuples of these, written as texts and read from them."""

from swapsums.errors import NoText

FIGURES = "0123456789"
LETTERS = "abcdefghijklmnopqrstuvwxyz"
MOST_FIGURES = 2000
MOST_SIGNS = 16
MOST_DEEP = 12


def shown_thing(thing):
    """The text of a THING."""
    if isinstance(thing, tuple):
        return "(" + " ".join([shown_thing(part) for part in thing]) + ")"
    return str(thing)


def read_thing(text):
    """The THING that a text writes, or NoText with the first place that can't stand."""
    thing, end = thing_at(text, 0, 0)
    if end < len(text):
        raise NoText(end)
    return thing


def thing_at(text, at, deep):
    """The THING that begins at a place, so many tuples deep, and the place behind it, or NoText."""
    if text[at:at + 1] == "(" and deep < MOST_DEEP:
        return tuple_at(text, at + 1, deep + 1)
    if run_end(text, at, LETTERS, 1) > at:
        return wording_at(text, at)
    return number_from(text, at)


def tuple_at(text, at, deep):
    """The tuple whose first THING begins at a place, and the place behind it, or NoText."""
    if text[at:at + 1] == ")":
        return ((), at + 1)
    thing, end = thing_at(text, at, deep)
    things = [thing]
    while text[end:end + 1] == " ":
        thing, end = thing_at(text, end + 1, deep)
        things.append(thing)
    if text[end:end + 1] != ")":
        raise NoText(end)
    return (tuple(things), end + 1)


def run_end(text, at, signs, most):
    """The place behind the run, from a place on, of at most so many of these signs."""
    end = at
    while end < len(text) and end - at < most and text[end] in signs:
        end += 1
    return end


def wording_at(text, at):
    """The WORDING that begins at a place, and the place behind it, or NoText."""
    end = run_end(text, at, LETTERS + "-", MOST_SIGNS)
    if text[end - 1] == "-":
        # With room left only what comes instead of a letter can't stand, without room the - itself can't.
        raise NoText(end if end - at < MOST_SIGNS else end - 1)
    return (text[at:end], end)


def number_from(text, at):
    """The whole number that begins at a place, and the place behind it, or NoText."""
    first = run_end(text, at, "-", 1)
    end = run_end(text, first, FIGURES, MOST_FIGURES)
    if end == first or (first > at and text[first] == "0"):
        raise NoText(first)
    if text[first] == "0":
        end = first + 1
    return (int(text[at:end]), end)
