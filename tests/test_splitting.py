import copy
import itertools
import unittest
from fractions import Fraction

from plain_things import same
from swapsums.letters import poly_added, poly_of, poly_scaled, poly_times
from swapsums.meaning import meant
from swapsums.products import times_sum
from swapsums.ratios import is_ratio
from swapsums.shapes import is_shape, shapes_of
from swapsums.splitting import laid_as_one, split_in_two
from swapsums.sums import is_sum, scaled
from test_latticed import fillings_by_hand
from test_leading import in_shapes_by_hand, row_by_hand

WAYS = ["shapes", "powers", "choices", "repeats", "tables"]
ONE = (1, 1)
SUMS = [
    (),
    (((), (-2, 3)),),
    (((), (1, 2)), ((1,), (-1, 1)), ((2, 1), (5, 7))),
    (((2, 2, 1), (-7, 1)), ((3, 1, 1, 1), (1, 3)), ((6,), ONE)),
    (((1, 1), (2, 1)), ((3,), (-1, 1)), ((3, 1), ONE)),
    (((2, 1, 1, 1, 1), ONE), ((2, 2, 2), (-1, 2)), ((4, 2), (999999, 1))),
]
SPLITS = [
    (),
    (((), (), (3, 5)),),
    (((), (2, 1), (1, 2)), ((1,), (1,), (-1, 1)), ((2, 1), (), (1, 2))),
    (((1,), (3, 1), ONE), ((1, 1), (), (2, 3)), ((2,), (2, 2), (-1, 1)), ((3, 2, 1), (), (1, 7))),
    (((1, 1), (2, 1), ONE), ((2, 1), (1, 1), (-2, 1))),
]


def is_split(thing):
    """A tuple of triples, the pairs of shapes rising, no ratio nought."""
    if not isinstance(thing, tuple) or not all(isinstance(triple, tuple) and len(triple) == 3 for triple in thing):
        return False
    pairs = [(one, other) for one, other, number in thing]
    return (all(is_shape(one) and is_shape(other) and is_ratio(number) and number[0] for one, other, number in thing)
            and pairs == sorted(set(pairs)))


def shared_in_two(shape):
    """The unlike pairs of shapes among which a shape's parts are shared out."""
    told = set()
    for sides in itertools.product((0, 1), repeat=len(shape)):
        told.add(tuple(tuple(part for part, side in zip(shape, sides) if side == row) for row in (0, 1)))
    return told


def rows_of_telling(way, some):
    """By pairs of shapes by shapes what the telling is with letters in two rows."""
    told = {}
    for shape, number in in_shapes_by_hand(way, some).items():
        for both in shared_in_two(shape):
            told[both] = told.get(both, 0) + number
    return {both: number for both, number in told.items() if number}


def rows_of_split(way, split):
    """By pairs of shapes by shapes what a SPLIT is."""
    told = {}
    for one, other, number in split:
        for first, many in row_by_hand(way, one).items():
            for second, more in row_by_hand(way, other).items():
                told[first, second] = told.get((first, second), 0) + Fraction(*number) * many * more
    return {both: number for both, number in told.items() if number}


def split_meant(way, split, n, m):
    """The meaning of a SPLIT, the first row's letters ahead."""
    pairs = []
    for one, other, number in split:
        for powers, worth in meant(way, ((one, number),), n):
            for more, (top, bottom) in meant(way, ((other, ONE),), m):
                both = Fraction(*worth) * Fraction(top, bottom)
                pairs.append((powers + more, (both.numerator, both.denominator)))
    return poly_of(n + m, pairs)


class SplitInTwo(unittest.TestCase):
    def test_of_each_shape(self):
        for size in range(7):
            for shape in shapes_of(size):
                for way in WAYS:
                    told = split_in_two(way, ((shape, ONE),))
                    self.assertIs(is_split(told), True)
                    self.assertEqual(rows_of_split(way, told), rows_of_telling(way, ((shape, ONE),)))
                    self.assertEqual(sorted((other, one, number) for one, other, number in told), list(told))
                    self.assertTrue(all(top > 0 and bottom == 1 for one, other, (top, bottom) in told))

    def test_of_sums(self):
        for some in SUMS:
            for way in WAYS:
                told = split_in_two(way, some)
                self.assertIs(is_split(told), True)
                self.assertEqual(rows_of_split(way, told), rows_of_telling(way, some))
                self.assertEqual(sorted((other, one, number) for one, other, number in told), list(told))

    def test_means_the_same(self):
        for some in SUMS:
            for way in WAYS:
                told = split_in_two(way, some)
                for n, m in ((0, 0), (0, 2), (2, 0), (1, 1), (2, 1), (1, 3)):
                    same(self, split_meant(way, told, n, m), meant(way, some, n + m))

    def test_tables_are_latticed_ones(self):
        for shape in shapes_of(6)[::2] + shapes_of(5):
            for one, other, number in split_in_two("tables", ((shape, ONE),)):
                same(self, number, (len(fillings_by_hand((shape, one), other)), 1))

    def test_plain_ones(self):
        for way in WAYS:
            same(self, split_in_two(way, ()), ())
            same(self, split_in_two(way, (((), (2, 3)),)), (((), (), (2, 3)),))
            same(self, split_in_two(way, (((1,), (-1, 2)),)), (((), (1,), (-1, 2)), ((1,), (), (-1, 2))))
        same(self, split_in_two("shapes", (((1, 1), ONE),)), (((), (1, 1), ONE), ((1,), (1,), ONE), ((1, 1), (), ONE)))
        same(self, split_in_two("powers", (((1, 1), ONE),)), (((), (1, 1), ONE), ((1,), (1,), (2, 1)), ((1, 1), (), ONE)))
        same(self, split_in_two("shapes", (((2,), ONE),)), (((), (2,), ONE), ((2,), (), ONE)))
        same(self, split_in_two("powers", (((2,), ONE),)), (((), (2,), ONE), ((2,), (), ONE)))
        for way in ("choices", "repeats", "tables"):
            same(self, split_in_two(way, (((2,), ONE),)), (((), (2,), ONE), ((1,), (1,), ONE), ((2,), (), ONE)))
        same(self, split_in_two("choices", (((1, 1), ONE),)), (((), (1, 1), ONE), ((1,), (1,), (2, 1)), ((1, 1), (), ONE)))
        same(self, split_in_two("tables", (((2, 1), ONE),)),
             (((), (2, 1), ONE), ((1,), (1, 1), ONE), ((1,), (2,), ONE), ((1, 1), (1,), ONE), ((2,), (1,), ONE), ((2, 1), (), ONE)))

    def test_pairs_that_come_to_nought(self):
        for way in ("choices", "repeats"):
            told = split_in_two(way, (((1,), ONE), ((1, 1), ONE), ((2,), (-2, 1))))
            same(self, told, (((), (1,), ONE), ((), (1, 1), ONE), ((), (2,), (-2, 1)), ((1,), (), ONE), ((1, 1), (), ONE),
                              ((2,), (), (-2, 1))))
        told = split_in_two("tables", (((1, 1), (1, 3)), ((2,), (-1, 3)), ((3,), ONE)))
        same(self, told, (((), (1, 1), (1, 3)), ((), (2,), (-1, 3)), ((), (3,), ONE), ((1,), (2,), ONE),
                          ((1, 1), (), (1, 3)), ((2,), (), (-1, 3)), ((2,), (1,), ONE), ((3,), (), ONE)))


class LaidAsOne(unittest.TestCase):
    def test_against_what_both_rows_mean(self):
        for split in SPLITS + [split_in_two("tables", SUMS[4]), split_in_two("powers", SUMS[2])]:
            for way in WAYS:
                told = laid_as_one(way, split)
                self.assertIs(is_sum(told), True)
                for n in range(4):
                    wanted = ()
                    for one, other, number in split:
                        product = poly_times(meant(way, ((one, ONE),), n), meant(way, ((other, ONE),), n))
                        wanted = poly_added(wanted, poly_scaled(number, product))
                    same(self, meant(way, told, n), wanted)

    def test_each_triple_a_product(self):
        for way in WAYS:
            for size in range(7):
                for one, other in itertools.product(shapes_of(size)[:4], shapes_of(6 - size)[-4:]):
                    told = laid_as_one(way, ((one, other, (-3, 4)),))
                    same(self, told, times_sum(way, ((one, (-3, 4)),), ((other, ONE),)))

    def test_of_what_was_split(self):
        # With the same letters in both rows each sum of powers comes twice.
        for some in SUMS:
            wanted = tuple((shape, (Fraction(top * 2 ** len(shape), bottom).numerator,
                                    Fraction(top * 2 ** len(shape), bottom).denominator)) for shape, (top, bottom) in some)
            same(self, laid_as_one("powers", split_in_two("powers", some)), wanted)
            for way in WAYS:
                told = laid_as_one(way, split_in_two(way, some))
                points = (2, -1)
                values = [Fraction(point) for point in points]
                both = meant(way, some, 4)
                twice = sum(Fraction(*number) * values[0] ** (powers[0] + powers[1]) * values[1] ** (powers[2] + powers[3])
                            for powers, number in both)
                alone = sum(Fraction(*number) * values[0] ** powers[0] * values[1] ** powers[1]
                            for powers, number in meant(way, told, 2))
                self.assertEqual(alone, twice)

    def test_products_that_cancel(self):
        for way in WAYS:
            same(self, laid_as_one(way, (((1,), (2,), ONE), ((2,), (1,), (-1, 1)))), ())
            same(self, laid_as_one(way, (((), (2, 1), (1, 2)), ((2, 1), (), (-1, 2)))), ())
        same(self, laid_as_one("powers", (((), (2, 1), ONE), ((1,), (2,), (-1, 1)))), ())
        same(self, laid_as_one("tables", (((), (2,), (-1, 1)), ((1,), (1,), ONE))), (((1, 1), ONE),))
        same(self, laid_as_one("shapes", (((), (1, 1), (-2, 1)), ((1,), (1,), ONE))), (((2,), ONE),))

    def test_plain_ones(self):
        for way in WAYS:
            same(self, laid_as_one(way, ()), ())
            same(self, laid_as_one(way, (((), (), (2, 3)),)), (((), (2, 3)),))
            for some in SUMS:
                same(self, laid_as_one(way, tuple((shape, (), number) for shape, number in some)), some)
                same(self, laid_as_one(way, tuple(((), shape, number) for shape, number in scaled((2, 1), some))),
                     scaled((2, 1), some))

    def test_nothing_hangs_on_what_was_asked_before(self):
        asked = [(way, some) for way in WAYS for some in SUMS]
        kept = copy.deepcopy(asked)
        first = [split_in_two(*words) for words in asked]
        laid = [laid_as_one(words[0], told) for words, told in zip(asked, first)]
        same(self, [split_in_two(*words) for words in asked[::-1]][::-1], first)
        same(self, [laid_as_one(words[0], told) for words, told in zip(asked, first)], laid)
        same(self, asked, kept)


if __name__ == "__main__":
    unittest.main()
