import copy
import itertools
import unittest

from plain_things import ODD_THINGS, nested, same, spoilt
from swapsums.errors import NoPaper
from swapsums.headchecker import contents_of, heads_of, lets_made, lets_words
from swapsums.leading import led
from swapsums.letters import is_poly, stays
from swapsums.meaning import meant
from swapsums.sums import is_sum
from test_words import closed_words, down_by_hand, up_by_hand


def paper_of(n, *words):
    """The words paper that these words make, each closed under a mark of its own: 0, 7, 14 .."""
    return tuple((7 * at, word) for at, one in enumerate(words) for word in closed_words(n, one))


# (n, words paper)
PAPERS = [
    (1, ()), (5, ()),
    (1, paper_of(1, (0, 0, 0))),
    (1, ((0, ()), (1, ()), (999, (0,)))),
    (2, paper_of(2, (0, 0), (0, 1), (0, 0, 1))),
    (2, paper_of(2, (1, 0, 1, 0, 1))),
    (3, paper_of(3, (0, 1, 0))),
    (3, paper_of(3, (0, 1, 0), (0, 0, 1), (), (0, 1, 2))),
    (3, tuple((0, word) for word in itertools.product(range(3), repeat=3))),
    (4, paper_of(4, (0, 1, 0, 2))),
    (4, paper_of(4, (0,), (0,), (0,))),
    (5, paper_of(5, (0, 0))),
    (3, tuple((999, word) for word in closed_words(3, (0, 0, 1, 1, 2, 0, 1, 0)))),
    (2, tuple((mark, (0, 1)) for mark in range(300))),
]


def shape_is_right(n, thing):
    if not isinstance(thing, tuple) or len(thing) > 300:
        return False
    for marked in thing:
        if type(marked) is not tuple or len(marked) != 2 or type(marked[0]) is not int or type(marked[1]) is not tuple:
            return False
        if not 0 <= marked[0] <= 999 or len(marked[1]) > 8:
            return False
        if not all(type(letter) is int and 0 <= letter < n for letter in marked[1]):
            return False
    return list(thing) == sorted(set(thing))


def refusal_by_hand(n, thing):
    """(word, number) as the document tells it, or None."""
    if not shape_is_right(n, thing):
        return ("shape", -1)
    for k, (mark, word) in enumerate(thing):
        for i in range(n - 1):
            for name, other in (("up", up_by_hand(i, word)), ("down", down_by_hand(i, word))):
                if other is not None and (mark, other) not in thing:
                    return (name, k)
    return None


def contents_by_hand(n, paper):
    met = [tuple(word.count(letter) for letter in range(n)) for mark, word in paper]
    return tuple((content, (met.count(content), 1)) for content in sorted(set(met)))


def heads_by_hand(n, paper):
    met = []
    for mark, word in paper:
        if all(up_by_hand(i, word) is None for i in range(n - 1)):
            met.append(tuple(word.count(letter) for letter in range(n) if letter in word))
    return tuple((shape, (met.count(shape), 1)) for shape in sorted(set(met)))


def made_refusal_by_hand(n, some, thing):
    first = refusal_by_hand(n, thing)
    if first is not None:
        return first
    there = {}
    for content, (many, bottom) in contents_by_hand(n, thing):
        shape = content
        while shape and shape[-1] == 0:
            shape = shape[:-1]
        if 0 not in shape and all(a >= b for a, b in zip(shape, shape[1:])):
            there[shape] = (many, bottom)
    wanted = {shape: number for shape, number in some if len(shape) <= n}
    for j, shape in enumerate(sorted(set(there) | set(wanted))):
        if there.get(shape, (0, 1)) != wanted.get(shape, (0, 1)):
            return ("contents", j)
    return None


class Checking(unittest.TestCase):
    def look_at(self, ask, thing, wanted):
        """True, or refused with just this word and number; nothing is changed."""
        kept, written = copy.deepcopy(thing), repr(thing)
        if wanted is None:
            self.assertIs(ask(thing), True)
        else:
            with self.assertRaises(NoPaper) as told:
                ask(thing)
            same(self, (told.exception.word, told.exception.number), wanted)
        self.assertEqual((thing, repr(thing)), (kept, written))


class LetsWords(Checking):
    def words(self, n, thing, wanted):
        self.assertEqual(refusal_by_hand(n, thing), wanted)
        self.look_at(lambda one: lets_words(n, one), thing, wanted)

    def test_right_ones(self):
        self.assertEqual(max(len(paper) for n, paper in PAPERS), 300)
        for n, paper in PAPERS:
            self.words(n, paper, None)

    def test_no_tuple_of_marked_words(self):
        for n, paper in PAPERS:
            for thing in ODD_THINGS + [nested(40), list(paper), paper + ((),), paper + (None,), paper + ((1000, ()),)]:
                self.words(n, thing, ("shape", -1))
            for thing in spoilt(paper[:12]):
                self.words(n, thing, ("shape", -1))

    def test_marks(self):
        for mark in (-1, 1000, 10 ** 39, True, False, None, "0", (0,), [0]):
            self.words(2, ((mark, (0, 1)),), ("shape", -1))
            self.words(2, ((mark, ()),), ("shape", -1))
        for mark in (0, 1, 999):
            self.words(2, ((mark, (0, 1)),), None)

    def test_words(self):
        for n in range(1, 6):
            for word in ((n,), (-1,), (0, n), (0,) * 9, (True,), (False,), [0], [], "0", None, 0, ((0,),), (0, "0")):
                self.words(n, ((0, word),), ("shape", -1))
        self.words(1, ((0, (0,) * 8),), None)
        self.words(2, ((0, (0, 1) * 4),), None)
        self.words(2, ((0, (0, 1) * 4 + (0,)),), ("shape", -1))

    def test_more_than_300(self):
        paper = tuple((mark, ()) for mark in range(301))
        self.words(2, paper, ("shape", -1))
        self.words(2, paper[1:], None)
        self.words(2, paper[:300], None)

    def test_one_missing_twice_or_exchanged(self):
        for n, paper in PAPERS:
            for k, marked in list(enumerate(paper))[:60]:
                self.words(n, paper[:k] + (marked,) + paper[k:], ("shape", -1))
                missing = paper[:k] + paper[k + 1:]
                self.words(n, missing, refusal_by_hand(n, missing))
                if k:
                    self.words(n, paper[:k - 1] + (marked, paper[k - 1]) + paper[k + 1:], ("shape", -1))

    def test_one_thing_otherwise_but_right_by_its_looks(self):
        for n, paper in PAPERS:
            for k, (mark, word) in list(enumerate(paper))[:40]:
                others = [(mark + 1, word), (mark, word[:-1]), (mark, word + (0,)), (mark, word[::-1]), (999, word)]
                others += [(mark, (letter,) + word[1:]) for letter in range(n)]
                for other in others:
                    thing = tuple(sorted(set(paper[:k] + (other,) + paper[k + 1:])))
                    self.words(n, thing, refusal_by_hand(n, thing))

    def test_the_very_refusals(self):
        self.words(2, ((0, (0,)),), ("down", 0))
        self.words(2, ((0, (1,)),), ("up", 0))
        # The up at one i is ahead of the down at it, and both are ahead of the next i.
        self.words(2, ((0, (1, 0)),), ("up", 0))
        self.words(2, ((0, (0, 0)), (0, (1, 0))), ("down", 1))
        self.words(3, ((0, (0, 2)),), ("down", 0))
        self.words(3, ((0, (1, 2)), (0, (2, 0))), ("up", 0))
        self.words(3, ((0, (0, 2)), (0, (1, 2))), ("up", 0))
        self.words(3, ((0, (0,)), (0, (1,))), ("down", 1))
        self.words(3, ((0, (1,)), (0, (2,))), ("up", 0))
        self.words(3, ((0, (0,)), (0, (2,))), ("down", 0))
        # Word by word, whatever the refusal.
        self.words(2, ((0, ()), (0, (0, 1)), (0, (1,))), ("up", 2))
        self.words(2, ((0, (0,)), (0, (1, 1))), ("down", 0))
        # Under another mark it isn't there.
        self.words(2, ((0, (0,)), (1, (1,))), ("down", 0))
        self.words(2, ((0, (0,)), (0, (1,)), (1, (1,))), ("up", 2))
        # Closed with two letters, not with three.
        self.words(2, ((0, (0,)), (0, (1,))), None)
        self.words(4, ((0, (0,)), (0, (1,)), (0, (2,))), ("down", 2))

    def test_all_papers_of_short_words(self):
        words = [(0, word) for many in range(3) for word in itertools.product(range(2), repeat=many)]
        let_by = 0
        for many in range(len(words) + 1):
            for paper in itertools.combinations(sorted(words), many):
                wanted = refusal_by_hand(2, paper)
                self.words(2, paper, wanted)
                let_by += wanted is None
        # (), the one letter, the two words without a pair and the one with it: each there or not.
        self.assertEqual(let_by, 16)


class Told(unittest.TestCase):
    def test_contents_of(self):
        for n, paper in PAPERS:
            told = contents_of(n, paper)
            same(self, told, contents_by_hand(n, paper))
            self.assertIs(is_poly(n, told), True)
            self.assertIs(stays(n, told), True)

    def test_heads_of(self):
        for n, paper in PAPERS:
            told = heads_of(n, paper)
            same(self, told, heads_by_hand(n, paper))
            self.assertIs(is_sum(told), True)

    def test_the_heads_mean_the_contents(self):
        for n, paper in PAPERS:
            same(self, meant("tables", heads_of(n, paper), n), contents_of(n, paper))

    def test_plain_ones(self):
        same(self, contents_of(3, ()), ())
        same(self, heads_of(3, ()), ())
        same(self, contents_of(2, ((0, ()), (4, ()))), (((0, 0), (2, 1)),))
        same(self, heads_of(2, ((0, ()), (4, ()))), (((), (2, 1)),))
        paper = tuple((0, word) for word in itertools.product(range(2), repeat=2))
        same(self, contents_of(2, paper), (((0, 2), (1, 1)), ((1, 1), (2, 1)), ((2, 0), (1, 1))))
        same(self, heads_of(2, paper), (((1, 1), (1, 1)), ((2,), (1, 1))))


class LetsMade(Checking):
    def made(self, n, some, thing, wanted):
        self.assertEqual(made_refusal_by_hand(n, some, thing), wanted)
        self.look_at(lambda one: lets_made(n, some, one), thing, wanted)

    def right_sum(self, n, paper):
        """The SUM of shapes that a paper shows to be made; with few letters also with shapes of too many parts."""
        return led("tables", "shapes", heads_of(n, paper))

    def test_right_ones(self):
        for n, paper in PAPERS:
            some = self.right_sum(n, paper)
            self.made(n, some, paper, None)
            self.made(n, tuple(pair for pair in some if len(pair[0]) <= n), paper, None)

    def test_shapes_of_more_parts_than_letters(self):
        self.made(1, (((1, 1), (5, 7)),), (), None)
        self.made(2, (((1, 1), (1, 1)), ((1, 1, 1), (-1, 2))), ((3, (0, 1)),), None)
        self.made(2, (((1, 1, 1), (-1, 2)), ((2,), (1, 1))), (), ("contents", 0))

    def test_one_number_otherwise(self):
        for n, paper in PAPERS:
            some = self.right_sum(n, paper)
            for at, (shape, (top, bottom)) in enumerate(some):
                for number in ((top + 1, 1), (-top, 1), (2 * top + 1, 2), (top * 10 ** 5 + 1, 10 ** 5)):
                    other = some[:at] + ((shape, number),) + some[at + 1:]
                    self.made(n, other, paper, made_refusal_by_hand(n, other, paper))
                    if len(shape) <= n:
                        self.assertIsNotNone(made_refusal_by_hand(n, other, paper))

    def test_a_shape_more_or_fewer(self):
        for n, paper in PAPERS:
            some = self.right_sum(n, paper)
            for at, (shape, number) in enumerate(some):
                fewer = some[:at] + some[at + 1:]
                self.made(n, fewer, paper, made_refusal_by_hand(n, fewer, paper))
            for shape in ((), (1,), (1, 1), (2, 1), (3, 3), (8,), (1,) * 8):
                if shape not in dict(some):
                    more = tuple(sorted(some + ((shape, (1, 1)),)))
                    self.made(n, more, paper, made_refusal_by_hand(n, more, paper))

    def test_the_number_as_it_is_counted(self):
        paper = tuple((0, word) for word in itertools.product(range(2), repeat=2))
        self.made(2, (((1, 1), (2, 1)), ((2,), (1, 1))), paper, None)
        self.made(2, (((1, 1), (2, 1)), ((2,), (2, 1))), paper, ("contents", 1))
        self.made(2, (((1, 1), (1, 1)), ((2,), (2, 1))), paper, ("contents", 0))
        self.made(2, (((), (1, 1)), ((1, 1), (2, 1)), ((2,), (1, 1))), paper, ("contents", 0))
        self.made(2, (((1,), (1, 1)), ((1, 1), (2, 1)), ((2,), (1, 1))), paper, ("contents", 0))
        self.made(2, (((1, 1), (2, 1)), ((2,), (1, 1)), ((2, 1), (1, 1))), paper, ("contents", 2))
        # The shape of three parts isn't counted, the one of too many words is.
        self.made(2, (((1, 1), (2, 1)), ((1, 1, 1), (9, 1)), ((2,), (3, 2))), paper, ("contents", 1))
        self.made(2, (((1, 1), (2, 1)),), paper, ("contents", 1))
        self.made(2, (((2,), (1, 1)),), paper, ("contents", 0))
        self.made(2, (), paper, ("contents", 0))
        self.made(2, (((3,), (1, 1)),), (), ("contents", 0))
        self.made(3, (), ((1, ()),), ("contents", 0))
        self.made(3, (((), (1, 1)),), ((1, ()),), None)
        self.made(3, (((), (1, 2)),), ((1, ()),), ("contents", 0))

    def test_nought(self):
        for n in range(1, 6):
            self.made(n, (), (), None)
            self.made(n, (((1,) * (n + 1), (3, 2)),), (), None)
            self.made(n, (((1,) * n, (3, 2)),), (), ("contents", 0))

    def test_the_word_checker_refuses_first(self):
        some = (((1,), (5, 1)),)
        for thing in ODD_THINGS + [[], [()], ((0, (2,)),), ((0, (True,)),)]:
            self.made(2, some, thing, ("shape", -1))
        self.made(2, some, ((0, (0,)),), ("down", 0))
        self.made(2, some, ((0, (1,)),), ("up", 0))
        self.made(2, some, ((0, (0,)), (0, (1,))), ("contents", 0))


if __name__ == "__main__":
    unittest.main()
