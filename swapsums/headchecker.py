"""The checkers of words papers: they seek nothing, and what they let by is so."""

from swapsums.errors import NoPaper
from swapsums.meaning import each_once, shapes_by
from swapsums.plain import is_pair, is_rising, is_whole
from swapsums.ratios import ONE
from swapsums.shapes import without_noughts
from swapsums.sums import number_at, sum_of
from swapsums.tables import content_of
from swapsums.words import down_at, is_word, up_at, up_somewhere

MOST_WORDS = 300
MOST_LETTERS = 8
MARKS_END = 1000


def is_marked(n, thing):
    """Whether any plain thing is a MARKED WORD of n letters that a words paper may have."""
    if not is_pair(thing) or not is_whole(thing[0]) or not is_word(n, thing[1]):
        return False
    return 0 <= thing[0] < MARKS_END and len(thing[1]) <= MOST_LETTERS


def are_marked(n, thing):
    """Whether any plain thing is a rising tuple of MARKED WORDS of n letters, not too many."""
    if not isinstance(thing, tuple) or len(thing) > MOST_WORDS:
        return False
    return all(is_marked(n, marked) for marked in thing) and is_rising(thing)


def lets_words(n, thing):
    """True of a words paper of n letters, of any other plain thing NoPaper."""
    if not are_marked(n, thing):
        raise NoPaper("shape", -1)
    there = set(thing)
    for k, (mark, word) in enumerate(thing):
        for i in range(n - 1):
            higher = up_at(i, word)
            if higher is not None and (mark, higher) not in there:
                raise NoPaper("up", k)
            lower = down_at(i, word)
            if lower is not None and (mark, lower) not in there:
                raise NoPaper("down", k)
    return True


def contents_of(n, paper):
    """The POLY of how many MARKED WORDS of a words paper have each content."""
    return each_once(n, [content_of(n, (word,)) for mark, word in paper])


def heads_of(n, paper):
    """The SUM of tables of how many heads of a words paper have each SHAPE as content."""
    heads = [word for mark, word in paper if up_somewhere(n, word) is None]
    # In what can go up nowhere no letter comes oftener than the one ahead of it.
    return sum_of([(without_noughts(content_of(n, (word,))), ONE) for word in heads])


def lets_made(n, some, thing):
    """True of a words paper of n letters whose contents are what a SUM of shapes means, of any other NoPaper."""
    lets_words(n, thing)
    wanted = [(shape, number) for shape, number in some if len(shape) <= n]
    # Whoever wrote it: the contents of what is let by so far stay.
    there = shapes_by(n, contents_of(n, thing))
    shapes = sorted(set([shape for shape, number in wanted] + [shape for shape, number in there]))
    for j, shape in enumerate(shapes):
        if number_at(wanted, shape) != number_at(there, shape):
            raise NoPaper("contents", j)
    return True
