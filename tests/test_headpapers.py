import itertools
import unittest

from plain_things import same
from swapsums.errors import NoMade, TooMany
from swapsums.headchecker import contents_of, heads_of, lets_made, lets_words
from swapsums.headpapers import made_paper, product_paper, words_of
from swapsums.leading import are_one, led
from swapsums.letters import poly_times
from swapsums.meaning import meant
from swapsums.products import times_sum
from swapsums.shapes import shapes_of
from test_headchecker import refusal_by_hand
from test_tables import tables_by_hand

SHAPES = [shape for size in range(6) for shape in shapes_of(size)]
SUMS = [
    (),
    (((), (1, 1)),),
    (((), (300, 1)),),
    (((), (2, 1)), ((1,), (3, 1)), ((1, 1), (1, 1)), ((2,), (2, 1))),
    (((1, 1, 1, 1, 1), (1, 1)), ((2, 1), (2, 1))),
    (((2, 2), (2, 1)), ((3, 1), (1, 1))),
    (((1, 1, 1), (7, 1)), ((2, 1, 1), (2, 1))),
]


def tables_count(shape, n):
    return len(tables_by_hand((shape, ()), n))


def words_count(n, some):
    return sum(number[0] * tables_count(shape, n) for shape, number in some if len(shape) <= n)


def few_parts(n, some):
    return tuple(pair for pair in some if len(pair[0]) <= n)


class Papers(unittest.TestCase):
    def no_made(self, ask, n, some, shape):
        with self.assertRaises(NoMade) as told:
            ask(n, some)
        same(self, told.exception.shape, shape)

    def too_many(self, ask, *things):
        with self.assertRaises(TooMany) as told:
            ask(*things)
        same(self, told.exception.word, "words")

    def right_paper(self, n, paper):
        self.assertIsNone(refusal_by_hand(n, paper))
        self.assertIs(lets_words(n, paper), True)


class WordsOf(Papers):
    def test_each_sum(self):
        told_of = 0
        for some in SUMS:
            for n in range(1, 6):
                many = words_count(n, some)
                if many > 300:
                    self.too_many(words_of, n, some)
                    self.too_many(made_paper, n, led("tables", "shapes", some))
                    continue
                paper = words_of(n, some)
                self.right_paper(n, paper)
                self.assertEqual(len(paper), many)
                same(self, heads_of(n, paper), few_parts(n, some))
                same(self, contents_of(n, paper), meant("tables", some, n))
                told_of += 1
        self.assertGreater(told_of, 25)

    def test_each_shape(self):
        for shape in SHAPES:
            for n in range(1, 5):
                some = ((shape, (1, 1)),)
                paper = words_of(n, some)
                self.right_paper(n, paper)
                same(self, heads_of(n, paper), few_parts(n, some))

    def test_nought(self):
        for n in range(1, 6):
            same(self, words_of(n, ()), ())
            same(self, words_of(n, (((1,) * (n + 1), (5, 1)),)), ())
            same(self, words_of(n, (((1,) * (n + 1), (-5, 2)),)), ())
            same(self, words_of(n, (((1,) * (n + 1), (10 ** 30, 1)),)), ())

    def test_no_made(self):
        for number in ((-1, 1), (1, 2), (-1, 2), (999999, 2), (-999999, 1), (3, 999999)):
            for n in (1, 2, 3, 5):
                self.no_made(words_of, n, (((), number),), ())
                self.no_made(words_of, n, (((1,), (2, 1)), ((3,), number)), (3,))
            # The first such, of those with no more parts than letters.
            some = (((1,), (1, 1)), ((2, 1), number), ((2, 2), number), ((3,), number))
            self.no_made(words_of, 2, some, (2, 1))
            self.no_made(words_of, 1, some, (3,))
            some = (((1, 1, 1), number), ((2,), (1, 1)), ((2, 1), (-4, 1)))
            self.no_made(words_of, 2, some, (2, 1))
            self.no_made(words_of, 3, some, (1, 1, 1))
            same(self, heads_of(1, words_of(1, some)), (((2,), (1, 1)),))

    def test_three_hundred_and_more(self):
        for n, shape, many in ((1, (), 300), (5, (), 300), (3, (1,), 100), (3, (2,), 50), (4, (3,), 15), (4, (2, 1, 1), 20),
                               (1, (5,), 300), (2, (2, 1), 150), (5, (1, 1, 1, 1, 1), 300), (5, (1, 1), 30)):
            paper = words_of(n, ((shape, (many, 1)),))
            self.assertEqual(len(paper), 300)
            self.right_paper(n, paper)
            same(self, heads_of(n, paper), ((shape, (many, 1)),))
            self.too_many(words_of, n, ((shape, (many + 1, 1)),))
            self.too_many(words_of, n, ((shape, (10 ** 30, 1)),))
        self.too_many(words_of, 1, (((), (1, 1)), ((2,), (300, 1))))
        self.assertEqual(len(words_of(1, (((), (1, 1)), ((1, 1), (999999, 1)), ((2,), (299, 1))))), 300)

    def test_too_many_is_behind_no_made(self):
        self.no_made(words_of, 2, (((), (301, 1)), ((1,), (1, 2))), (1,))
        self.no_made(words_of, 2, (((), (301, 1)), ((1,), (-1, 1))), (1,))
        self.too_many(words_of, 2, (((), (301, 1)), ((1, 1, 1), (-1, 1))))


class MadePaper(Papers):
    def test_each_sum(self):
        for some in SUMS:
            for n in range(1, 6):
                if words_count(n, some) <= 300:
                    shapes = led("tables", "shapes", some)
                    paper = made_paper(n, shapes)
                    self.right_paper(n, paper)
                    self.assertIs(lets_made(n, shapes, paper), True)
                    same(self, heads_of(n, paper), few_parts(n, some))
                    if n >= max([sum(shape) for shape, number in some], default=0):
                        self.assertIs(are_one(("shapes", shapes), ("tables", heads_of(n, paper))), True)

    def test_of_other_ways(self):
        for way in ("powers", "choices", "repeats"):
            for shape in SHAPES:
                some = led(way, "shapes", ((shape, (1, 1)),))
                wanted = led(way, "tables", ((shape, (1, 1)),))
                for n in (1, 2, 3):
                    less = [pair[0] for pair in few_parts(n, wanted) if pair[1][0] < 0]
                    if less:
                        self.no_made(made_paper, n, some, less[0])
                    elif words_count(n, wanted) > 300:
                        self.too_many(made_paper, n, some)
                    else:
                        paper = made_paper(n, some)
                        self.right_paper(n, paper)
                        self.assertIs(lets_made(n, some, paper), True)

    def test_no_made(self):
        # The shape (2) alone is tables 2 less tables 1.1.
        self.no_made(made_paper, 2, (((2,), (1, 1)),), (1, 1))
        self.assertIs(lets_made(1, (((2,), (1, 1)),), made_paper(1, (((2,), (1, 1)),))), True)
        self.no_made(made_paper, 3, (((1, 1), (1, 2)), ((2,), (1, 1))), (1, 1))
        self.no_made(made_paper, 1, (((1, 1), (1, 2)), ((2,), (1, 3))), (2,))
        self.no_made(made_paper, 5, (((), (-1, 1)),), ())
        self.no_made(made_paper, 2, (((), (301, 1)), ((2,), (1, 1))), (1, 1))

    def test_three_hundred_and_more(self):
        for n in range(1, 6):
            self.assertEqual(len(made_paper(n, (((), (300, 1)),))), 300)
            self.too_many(made_paper, n, (((), (301, 1)),))
        some = led("tables", "shapes", (((2, 1), (37, 1)),))
        self.assertIs(lets_made(3, some, made_paper(3, some)), True)
        self.too_many(made_paper, 3, led("tables", "shapes", (((2, 1), (38, 1)),)))

    def test_nought(self):
        for n in range(1, 6):
            same(self, made_paper(n, ()), ())
            same(self, made_paper(n, (((1,) * (n + 1), (-3, 2)),)), ())


class ProductPaper(Papers):
    def test_each_two_shapes(self):
        shapes = [shape for size in range(8) for shape in shapes_of(size)]
        told_of = 0
        for one, other in itertools.product(shapes, repeat=2):
            if sum(one) + sum(other) > 6:
                continue
            for n in (1, 2, 3):
                if tables_count(one, n) * tables_count(other, n) > 300:
                    self.too_many(product_paper, n, one, other)
                    continue
                paper = product_paper(n, one, other)
                self.right_paper(n, paper)
                self.assertEqual(len(paper), tables_count(one, n) * tables_count(other, n))
                alone = [((shape, (1, 1)),) for shape in (one, other)]
                wanted = poly_times(meant("tables", alone[0], n), meant("tables", alone[1], n))
                same(self, contents_of(n, paper), wanted)
                same(self, heads_of(n, paper), few_parts(n, times_sum("tables", alone[0], alone[1])))
                told_of += 1
        self.assertGreater(told_of, 300)

    def test_of_many_letters(self):
        for n, one, other in ((4, (2, 1), (2, 1, 1)), (4, (2, 2), (1, 1, 1)), (5, (2,), (1, 1)), (5, (3,), (1,)),
                              (5, (1, 1, 1, 1, 1), (2,)), (5, (2, 1), (1,)), (4, (1,) * 4, (3,)), (5, (), (2, 2))):
            paper = product_paper(n, one, other)
            self.right_paper(n, paper)
            wanted = times_sum("tables", ((one, (1, 1)),), ((other, (1, 1)),))
            same(self, heads_of(n, paper), few_parts(n, wanted))

    def test_three_hundred_and_more(self):
        self.assertEqual(len(product_paper(4, (2, 1), (2, 1, 1))), 300)
        self.assertEqual(len(product_paper(4, (2, 1, 1), (2, 1))), 300)
        # 280 of the one alone, 315 of the next.
        self.assertEqual(len(product_paper(5, (3, 2, 1), ())), 280)
        self.too_many(product_paper, 5, (3, 3, 1), ())
        self.too_many(product_paper, 5, (), (3, 3, 1))
        self.too_many(product_paper, 4, (3, 1), (2,))
        self.too_many(product_paper, 5, (1, 1, 1), (4,))

    def test_edges(self):
        for n in range(1, 6):
            same(self, heads_of(n, product_paper(n, (), ())), (((), (1, 1)),))
            for one, other in (((1,) * (n + 1), ()), ((), (1,) * (n + 1)), ((1,) * (n + 1), (1,)), ((3,), (1,) * (n + 1))):
                same(self, product_paper(n, one, other), ())
        # Nought, however many TABLES the other one has.
        same(self, product_paper(4, (8, 4, 2), (1,) * 5), ())


if __name__ == "__main__":
    unittest.main()
