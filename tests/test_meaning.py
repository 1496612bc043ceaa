import itertools
import unittest
from fractions import Fraction
from math import factorial, prod

from plain_things import same
from swapsums.errors import NoStay
from swapsums.letters import is_poly, poly_added, poly_scaled, poly_times, stays, value_of
from swapsums.meaning import meant, shapes_by
from swapsums.shapes import columns, shapes_of
from swapsums.sums import added, scaled

WAYS = ["shapes", "powers", "choices", "repeats", "tables"]
POINTS = [Fraction(2, 3), Fraction(-1), Fraction(5), Fraction(1, 7), Fraction(3, 2), Fraction(-4, 5)]


def repeats_value(k, xs):
    if k < 0:
        return Fraction(0)
    return sum((prod(chosen, start=Fraction(1)) for chosen in itertools.combinations_with_replacement(xs, k)), Fraction(0))


def tables_value(shape, xs):
    """By the orders of the rows, their signs, and repeats."""
    told = Fraction(0)
    for order in itertools.permutations(range(len(shape))):
        sign = (-1) ** sum(order[i] > order[j] for i in range(len(shape)) for j in range(i + 1, len(shape)))
        told += sign * prod((repeats_value(shape[i] - i + order[i], xs) for i in range(len(shape))), start=Fraction(1))
    return told


def value_by_hand(way, shape, xs):
    """The value of what a way and a shape mean, straight from the words of the document."""
    one = Fraction(1)
    if way == "shapes":
        if len(shape) > len(xs):
            return Fraction(0)
        powers = set(itertools.permutations(shape + (0,) * (len(xs) - len(shape))))
        return sum((prod((x ** k for x, k in zip(xs, chosen)), start=one) for chosen in powers), Fraction(0))
    if way == "powers":
        return prod((sum((x ** k for x in xs), Fraction(0)) for k in shape), start=one)
    if way == "choices":
        return prod((sum((prod(chosen, start=one) for chosen in itertools.combinations(xs, k)), Fraction(0))
                     for k in shape), start=one)
    if way == "repeats":
        return prod((repeats_value(k, xs) for k in shape), start=one)
    return tables_value(shape, xs)


class Meant(unittest.TestCase):
    def test_of_one_shape(self):
        for size in range(7):
            for shape in shapes_of(size):
                for n in range(6 if size < 6 else 5):
                    for way in WAYS:
                        poly = meant(way, ((shape, (1, 1)),), n)
                        self.assertIs(is_poly(n, poly), True)
                        self.assertIs(stays(n, poly), True)
                        self.assertTrue(all(sum(powers) == size for powers, number in poly))
                        values = tuple((x.numerator, x.denominator) for x in POINTS[:n])
                        wanted = value_by_hand(way, shape, POINTS[:n])
                        same(self, value_of(poly, values), (wanted.numerator, wanted.denominator))

    def test_plain_ones(self):
        one = (1, 1)
        same(self, meant("shapes", (((2, 1), one),), 2), (((1, 2), one), ((2, 1), one)))
        same(self, meant("shapes", (((1, 1), one),), 3), (((0, 1, 1), one), ((1, 0, 1), one), ((1, 1, 0), one)))
        same(self, meant("powers", (((2,), one),), 2), (((0, 2), one), ((2, 0), one)))
        same(self, meant("powers", (((1, 1), one),), 2), (((0, 2), one), ((1, 1), (2, 1)), ((2, 0), one)))
        same(self, meant("choices", (((2,), one),), 2), (((1, 1), one),))
        same(self, meant("choices", (((2, 1), one),), 2), (((1, 2), one), ((2, 1), one)))
        same(self, meant("repeats", (((2,), one),), 2), (((0, 2), one), ((1, 1), one), ((2, 0), one)))
        same(self, meant("tables", (((2, 1), one),), 3),
             (((0, 1, 2), one), ((0, 2, 1), one), ((1, 0, 2), one), ((1, 1, 1), (2, 1)), ((1, 2, 0), one),
              ((2, 0, 1), one), ((2, 1, 0), one)))

    def test_all_letters_once_in_rows_and_columns(self):
        for n in range(5):
            same(self, dict(meant("powers", (((1,) * n, (1, 1)),), n))[(1,) * n], (factorial(n), 1))
            for shape in shapes_of(n):
                told = dict(meant("tables", ((shape, (1, 1)),), n))[(1,) * n]
                same(self, told, dict(meant("tables", ((columns(shape), (1, 1)),), n))[(1,) * n])

    def test_the_shape_without_parts(self):
        for way in WAYS:
            for n in range(7):
                same(self, meant(way, (((), (3, 7)),), n), (((0,) * n, (3, 7)),))
                same(self, meant(way, (), n), ())

    def test_with_no_letter(self):
        for way in WAYS:
            for shape in ((1,), (2, 1), (6,), (1, 1, 1)):
                same(self, meant(way, ((shape, (1, 1)),), 0), ())
                same(self, meant(way, (((), (1, 2)), (shape, (1, 1))), 0), (((), (1, 2)),))

    def test_with_fewer_letters_than_parts(self):
        for n in range(3):
            same(self, meant("shapes", (((1, 1, 1), (1, 1)),), n), ())
            same(self, meant("tables", (((1, 1, 1), (1, 1)),), n), ())
            same(self, meant("tables", (((2, 1, 1), (1, 1)),), n), ())
            same(self, meant("choices", (((3,), (1, 1)),), n), ())
            same(self, meant("choices", (((3, 1), (1, 1)),), n), ())
        same(self, meant("powers", (((1, 1, 1), (1, 1)),), 1), (((3,), (1, 1)),))
        same(self, meant("repeats", (((2, 1, 1), (1, 1)),), 1), (((4,), (1, 1)),))
        same(self, meant("choices", (((1, 1, 1), (1, 1)),), 1), (((3,), (1, 1)),))

    def test_of_sums(self):
        one = (((), (1, 2)), ((1,), (2, 1)), ((1, 1), (-1, 1)), ((2, 1), (5, 3)))
        other = (((1, 1), (1, 1)), ((2,), (-10 ** 29, 3)))
        for way in WAYS:
            for n in range(4):
                piecewise = ()
                for shape, number in one:
                    piecewise = poly_added(piecewise, poly_scaled(number, meant(way, ((shape, (1, 1)),), n)))
                same(self, meant(way, one, n), piecewise)
                same(self, meant(way, added(one, other), n), poly_added(meant(way, one, n), meant(way, other, n)))
                same(self, meant(way, scaled((-2, 7), one), n), poly_scaled((-2, 7), meant(way, one, n)))

    def test_terms_that_go(self):
        # The square of all letters' sum, less their squares and twice their pairs.
        pairs = poly_scaled((-2, 1), meant("choices", (((2,), (1, 1)),), 3))
        squares = poly_scaled((-1, 1), meant("powers", (((2,), (1, 1)),), 3))
        all_of_it = meant("powers", (((1, 1), (1, 1)),), 3)
        same(self, poly_added(all_of_it, poly_added(pairs, squares)), ())
        same(self, meant("powers", (((1, 1), (1, 1)), ((2,), (-1, 1))), 1), ())

    def test_of_twenty_pairs(self):
        shapes = sorted(shape for size in range(7) for shape in shapes_of(size))[:20]
        some = tuple((shape, (at * 2 - 19, 7)) for at, shape in enumerate(shapes))
        some = tuple((shape, (top // 7, 1) if top % 7 == 0 else (top, bottom)) for shape, (top, bottom) in some)
        values = tuple((x.numerator, x.denominator) for x in POINTS[:5])
        for way in WAYS:
            wanted = sum(Fraction(*number) * value_by_hand(way, shape, POINTS[:5]) for shape, number in some)
            same(self, value_of(meant(way, some, 5), values), (wanted.numerator, wanted.denominator))

    def test_a_thousand_tables_and_more(self):
        poly = meant("tables", (((4, 2), (1, 1)),), 6)
        same(self, value_of(poly, ((1, 1),) * 6), (1134, 1))


class ShapesBy(unittest.TestCase):
    def test_led_back(self):
        some = (((), (1, 2)), ((1,), (2, 1)), ((1, 1), (-1, 1)), ((2, 1), (5, 3)), ((3, 2, 1), (1, 1)), ((12,), (1, 7)))
        for n in range(5):
            same(self, shapes_by(n, meant("shapes", some, n)), tuple(pair for pair in some if len(pair[0]) <= n))
            same(self, shapes_by(n, ()), ())

    def test_of_each_way(self):
        for way in WAYS:
            for n in range(5):
                for shape in shapes_of(4):
                    poly = meant(way, ((shape, (-3, 2)),), n)
                    told = shapes_by(n, poly)
                    self.assertTrue(all(len(parts) <= n for parts, number in told))
                    same(self, meant("shapes", told, n), poly)

    def test_plain_ones(self):
        same(self, shapes_by(0, (((), (4, 3)),)), (((), (4, 3)),))
        same(self, shapes_by(1, (((0,), (4, 3)), ((5,), (1, 1)))), (((), (4, 3)), ((5,), (1, 1))))
        same(self, shapes_by(2, (((0, 1), (2, 1)), ((1, 0), (2, 1)), ((1, 1), (1, 1)))), (((1,), (2, 1)), ((1, 1), (1, 1))))
        same(self, shapes_by(2, poly_times(meant("powers", (((1,), (1, 1)),), 2), meant("powers", (((1,), (1, 1)),), 2))),
             (((1, 1), (2, 1)), ((2,), (1, 1))))

    def refused(self, n, poly, letter):
        with self.assertRaises(NoStay) as told:
            shapes_by(n, poly)
        same(self, told.exception.letter, letter)

    def test_no_stay(self):
        one = (1, 1)
        self.refused(2, (((1, 0), one),), 0)
        self.refused(2, (((0, 1), one), ((1, 0), (2, 1))), 0)
        self.refused(2, (((0, 1), (-1, 1)), ((1, 0), one)), 0)
        self.refused(3, (((0, 0, 1), one),), 1)
        self.refused(3, (((0, 1, 0), one),), 0)
        self.refused(3, (((0, 1, 0), one), ((1, 0, 0), one)), 1)
        self.refused(3, (((0, 0, 1), one), ((1, 0, 0), one)), 0)
        self.refused(4, (((0, 0, 0, 1), one),), 2)
        self.refused(4, (((0, 0, 1, 1), one),), 1)
        self.refused(4, (((1, 1, 1, 2), one), ((2, 2, 2, 2), one)), 2)


if __name__ == "__main__":
    unittest.main()
