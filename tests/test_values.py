import copy
import itertools
import unittest
from fractions import Fraction
from math import comb, factorial, prod

from plain_things import same
from swapsums.shapes import shapes_of
from swapsums.values import all_alike, told_at
from test_hooks import tables_many_by_hand
from test_leading import SUMS as GREAT_SUMS
from test_meaning import value_by_hand

WAYS = ["shapes", "powers", "choices", "repeats", "tables"]
ONE = (1, 1)
SUMS = [
    (),
    (((), (-2, 3)),),
    (((), (1, 2)), ((1,), (-1, 1)), ((2, 1), (5, 7))),
    (((1, 1, 1), (2, 1)), ((2,), (1, 3)), ((3,), (-999999, 1))),
]
VALUES = [(2, 3), (-1, 1), (0, 1), (999, 998), (-5, 7), (1, 2)]


def value_of_sum(way, some, values):
    xs = [Fraction(*value) for value in values]
    told = sum((Fraction(*number) * value_by_hand(way, shape, xs) for shape, number in some), Fraction(0))
    return (told.numerator, told.denominator)


def products_by_hand(way, shape, n):
    """How many products of n letters there are in what a way and a shape mean."""
    if way == "powers":
        return n ** len(shape)
    if way == "choices":
        return prod(comb(n, k) for k in shape)
    if way == "repeats":
        return prod(comb(n + k - 1, k) if n else 0 for k in shape)
    if way == "tables":
        return tables_many_by_hand(shape, n)
    if len(shape) > n:
        return 0
    return factorial(n) // prod(factorial(many) for many in [n - len(shape)] + [shape.count(k) for k in set(shape)])


class ToldAt(unittest.TestCase):
    def test_each_way(self):
        for some in SUMS:
            for way in WAYS:
                for n in range(7):
                    same(self, told_at((way, some), tuple(VALUES[:n])), value_of_sum(way, some, VALUES[:n]))
                    same(self, told_at((way, some), tuple(VALUES[:-n - 1:-1])), value_of_sum(way, some, VALUES[:-n - 1:-1]))

    def test_each_shape_to_size_six(self):
        for size in range(7):
            for shape in shapes_of(size):
                for way in WAYS:
                    for n in range(4):
                        values = VALUES[n:2 * n]
                        same(self, told_at((way, ((shape, (3, 2)),)), tuple(values)),
                             value_of_sum(way, ((shape, (3, 2)),), values))

    def test_no_value(self):
        for way in WAYS:
            same(self, told_at((way, ()), ()), (0, 1))
            same(self, told_at((way, (((1,), ONE), ((2, 2), ONE))), ()), (0, 1))
            same(self, told_at((way, (((), (5, 3)), ((2, 2), ONE))), ()), (5, 3))

    def test_noughts(self):
        for way in WAYS:
            for some in SUMS:
                for n in range(7):
                    wanted = some[0][1] if some and some[0][0] == () else (0, 1)
                    same(self, told_at((way, some), ((0, 1),) * n), wanted)

    def test_a_letter_more_of_value_nought(self):
        for way in WAYS:
            for some in SUMS:
                for n in range(5):
                    wanted = told_at((way, some), tuple(VALUES[3:3 + n]))
                    for place in range(len(VALUES[3:3 + n]) + 1):
                        values = VALUES[3:3 + n]
                        values.insert(place, (0, 1))
                        same(self, told_at((way, some), tuple(values)), wanted)

    def test_fewer_values_than_parts(self):
        for n in range(3):
            for way in ("shapes", "tables"):
                same(self, told_at((way, (((1, 1, 1), ONE),)), tuple(VALUES[:n])), (0, 1))
            same(self, told_at(("choices", (((3,), ONE),)), tuple(VALUES[:n])), (0, 1))
        same(self, told_at(("powers", (((1, 1, 1), ONE),)), ((2, 3),)), (8, 27))
        same(self, told_at(("repeats", (((2, 1), ONE),)), ((2, 3),)), (8, 27))

    def test_in_another_order_the_same(self):
        for way in WAYS:
            wanted = told_at((way, SUMS[2]), tuple(VALUES[:4]))
            for order in itertools.permutations(VALUES[:4]):
                same(self, told_at((way, SUMS[2]), order), wanted)

    def test_plain_ones(self):
        values = ((1, 1), (2, 1), (3, 1))
        for way, wanted in (("shapes", 48), ("powers", 84), ("choices", 66), ("repeats", 150), ("tables", 60)):
            same(self, told_at((way, (((2, 1), ONE),)), values), (wanted, 1))


class AllAlike(unittest.TestCase):
    def test_against_told_at(self):
        for some in SUMS + GREAT_SUMS[3:5]:
            for way in WAYS:
                for value in ((0, 1), (1, 1), (-1, 1), (-999, 998), (2, 3)):
                    for n in range(4):
                        same(self, all_alike((way, some), n, value), told_at((way, some), (value,) * n))
                    if some in SUMS:
                        for n in (4, 5, 6):
                            same(self, all_alike((way, some), n, value), told_at((way, some), (value,) * n))

    def test_each_shape_by_a_count(self):
        for size in range(7):
            for shape in shapes_of(size):
                for way in WAYS:
                    for n in (0, 1, 2, 3, 5, 6, 7, 59, 60):
                        many = products_by_hand(way, shape, n)
                        same(self, all_alike((way, ((shape, ONE),)), n, (1, 1)), (many, 1))
                        told = Fraction(-2, 3) ** size * many * Fraction(5, 4)
                        same(self, all_alike((way, ((shape, (5, 4)),)), n, (-2, 3)), (told.numerator, told.denominator))

    def test_nought_of_everything(self):
        for way in WAYS:
            for some in SUMS:
                wanted = some[0][1] if some and some[0][0] == () else (0, 1)
                same(self, all_alike((way, some), 0, (999, 998)), wanted)
                same(self, all_alike((way, some), 0, (0, 1)), wanted)
                for n in (1, 2, 60):
                    same(self, all_alike((way, some), n, (0, 1)), wanted)
                same(self, all_alike((way, ()), 60, (7, 2)), (0, 1))

    def test_one_letter(self):
        for way, shape, wanted in (("shapes", (2, 1), 0), ("shapes", (3,), 8), ("powers", (2, 1), 8), ("choices", (2, 1), 0),
                                   ("choices", (1, 1, 1), 8), ("repeats", (2, 1), 8), ("tables", (3,), 8), ("tables", (2, 1), 0)):
            same(self, all_alike((way, ((shape, ONE),)), 1, (2, 1)), (wanted, 1))

    def test_sixty_letters(self):
        some = (((), (1, 2)), ((2, 1), (1, 3)), ((2, 2), (-1, 1)))
        for way in WAYS:
            told = sum(Fraction(*number) * products_by_hand(way, shape, 60) * Fraction(1, 10) ** sum(shape)
                       for shape, number in some)
            same(self, all_alike((way, some), 60, (1, 10)), (told.numerator, told.denominator))

    def test_nothing_hangs_on_what_was_asked_before(self):
        asked = [((way, some), tuple(VALUES[:n])) for way in WAYS for some in SUMS for n in range(4)]
        kept = copy.deepcopy(asked)
        first = [(told_at(*words), all_alike(words[0], 60, (2, 3))) for words in asked]
        later = [(told_at(*words), all_alike(words[0], 60, (2, 3))) for words in asked[::-1]]
        same(self, later[::-1], first)
        same(self, asked, kept)


if __name__ == "__main__":
    unittest.main()
