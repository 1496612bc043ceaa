import unittest
from fractions import Fraction
from math import gcd

from plain_things import ODD_THINGS, look, nested, same
from swapsums.errors import NoRatio
from swapsums.ratios import is_less, is_ratio, minus, over, plus, power, ratio, times

GREAT = 10 ** 59 + 7
WHOLES = [0, 1, -1, 2, -2, 3, 4, -6, 12, 35, 999983, -720720, GREAT, -GREAT, 10 ** 60 - 1, 2 ** 190, -(3 ** 120)]


def pair_of(fraction):
    return (fraction.numerator, fraction.denominator)


def some_ratios():
    return sorted({pair_of(Fraction(top, bottom)) for top in WHOLES for bottom in WHOLES if bottom})


class Ratios(unittest.TestCase):
    def test_is_ratio(self):
        right = [(0, 1), (1, 1), (-1, 1), (3, 2), (-3, 2), (2, 3), (10 ** 39, 7), (7, 10 ** 39), (-GREAT, 2 ** 100)]
        wrong = [(0, 2), (0, 0), (1, 0), (1, -1), (-1, -2), (0, -1), (2, 2), (2, 4), (-6, 9), (GREAT, GREAT), (1,), (),
                 (1, 2, 3), (1, 1, 1), (True, 1), (1, True), (False, 1), (True, True), (0, True), [1, 2], [0, 1],
                 ((1, 2),), "12", 1, (10 ** 39, 10), nested(40), tuple(range(30000))]
        look(self, is_ratio, right, wrong + ODD_THINGS)

    def test_is_ratio_over_small_numbers(self):
        for top in range(-12, 13):
            for bottom in range(-12, 13):
                self.assertIs(is_ratio((top, bottom)), bottom >= 1 and gcd(top, bottom) == 1)

    def test_ratio(self):
        for top in WHOLES:
            for bottom in WHOLES:
                if bottom:
                    same(self, ratio(top, bottom), pair_of(Fraction(top, bottom)))
                    self.assertIs(is_ratio(ratio(top, bottom)), True)

    def test_ratio_below_nought(self):
        same(self, ratio(6, -4), (-3, 2))
        same(self, ratio(-6, -4), (3, 2))
        same(self, ratio(0, -4), (0, 1))
        same(self, ratio(-6, 4), (-3, 2))

    def test_ratio_of_bottom_nought(self):
        for top in WHOLES:
            with self.assertRaises(NoRatio):
                ratio(top, 0)

    def test_sums_and_products(self):
        told = some_ratios()
        for one in told[::3]:
            for other in told[::5] + [(0, 1), one, (-one[0], one[1])]:
                first, second = Fraction(*one), Fraction(*other)
                same(self, plus(one, other), pair_of(first + second))
                same(self, minus(one, other), pair_of(first - second))
                same(self, times(one, other), pair_of(first * second))
                self.assertIs(is_less(one, other), first < second)
                if second:
                    same(self, over(one, other), pair_of(first / second))

    def test_plain_ones(self):
        same(self, plus((1, 2), (1, 2)), (1, 1))
        same(self, minus((1, 2), (1, 2)), (0, 1))
        same(self, minus((1, 3), (1, 2)), (-1, 6))
        same(self, times((2, 3), (3, 2)), (1, 1))
        same(self, times((2, 3), (0, 1)), (0, 1))
        same(self, over((1, 2), (-3, 4)), (-2, 3))
        same(self, over((0, 1), (-3, 4)), (0, 1))
        self.assertIs(is_less((1, 3), (1, 2)), True)
        self.assertIs(is_less((1, 2), (1, 2)), False)
        self.assertIs(is_less((-1, 2), (-1, 3)), True)
        self.assertIs(is_less((0, 1), (-1, 3)), False)

    def test_over_nought(self):
        for one in ((0, 1), (1, 1), (-5, 3), (GREAT, 2)):
            with self.assertRaises(NoRatio):
                over(one, (0, 1))

    def test_power(self):
        for one in ((0, 1), (1, 1), (-1, 1), (2, 3), (-2, 3), (999999, 999998), (-999983, 999999), (1, 999999)):
            for n in list(range(8)) + [59, 60]:
                same(self, power(one, n), pair_of(Fraction(*one) ** n))
        same(self, power((0, 1), 0), (1, 1))
        same(self, power((0, 1), 60), (0, 1))


if __name__ == "__main__":
    unittest.main()
