import copy
import itertools
import unittest
from fractions import Fraction

from plain_things import ODD_THINGS, look, nested, same
from swapsums.letters import (exchanged, is_poly, poly_added, poly_of, poly_scaled, poly_times, stays, value_of)

GREAT = 10 ** 29 + 3


def some_polys(n):
    """POLYs of n letters of several lengths, ratios of all sorts."""
    numbers = [(1, 1), (-1, 2), (5, 3), (-7, 1), (GREAT, 2), (1, GREAT)]
    told = [(), (((0,) * n, (1, 1)),), (((0,) * n, (-3, 2)),)]
    for many in (1, 2, 5, 20):
        chosen = sorted({tuple((k * k + 3 * k * i + i) % 13 for i in range(n)) for k in range(many)})
        told.append(tuple((powers, numbers[at % 6]) for at, powers in enumerate(chosen)))
    return told


def come_to(pairs):
    met = {}
    for powers, number in pairs:
        met[powers] = met.get(powers, 0) + Fraction(number)
    return tuple((powers, (met[powers].numerator, met[powers].denominator)) for powers in sorted(met) if met[powers])


def as_fractions(poly):
    return [(powers, Fraction(*number)) for powers, number in poly]


class Letters(unittest.TestCase):
    def test_is_poly(self):
        for n in range(7):
            ones, noughts = (1,) * n, (0,) * n
            right = some_polys(n) + [((ones, (GREAT, 7)),)]
            wrong = [((noughts, (0, 1)),), ((noughts, (2, 2)),), ((noughts, (1, 0)),), ((noughts, (1, -1)),),
                     ((ones + (0,), (1, 1)),), ((noughts, (1, 1)), (noughts, (1, 1))), ((noughts, (1, 1), (1, 1)),),
                     ((noughts,),), (noughts, (1, 1)), [(noughts, (1, 1))], (([0] * n, (1, 1)),), nested(40), ((),),
                     ((noughts + (False,), (1, 1)),), ((noughts, 1),)]
            if n:
                wrong += [((ones, (1, 1)), (noughts, (1, 1))), (((-1,) + ones[1:], (1, 1)),), ((ones[1:], (1, 1)),),
                          (((True,) + ones[1:], (1, 1)),), ((ones[1:] + (False,), (1, 1)),), (((), (1, 1)),),
                          ((noughts, (1, 1)), ((2,) + noughts[1:], (1, 1)), ((1,) + noughts[1:], (1, 1)))]
            look(self, lambda thing: is_poly(n, thing), right, wrong + ODD_THINGS)

    def test_is_poly_of_other_letters(self):
        for n in range(7):
            for m in range(7):
                for poly in some_polys(m):
                    self.assertIs(is_poly(n, poly), n == m or poly == ())

    def test_poly_of(self):
        for n in range(7):
            pairs = [(powers, number) for poly in some_polys(n) for powers, number in poly]
            pairs += [(powers, (0, 1)) for powers, number in pairs[:3]]
            pairs += [(powers, (-top, bottom)) for powers, (top, bottom) in pairs[::4]]
            wanted = come_to([(powers, Fraction(*number)) for powers, number in pairs])
            for order in (pairs, pairs[::-1], pairs[1::2] + pairs[::2]):
                kept = copy.deepcopy(order)
                same(self, poly_of(n, order), wanted)
                same(self, poly_of(n, tuple(order)), wanted)
                same(self, order, kept)
            self.assertIs(is_poly(n, wanted), True)

    def test_poly_of_plain_ones(self):
        for n in range(7):
            noughts = (0,) * n
            same(self, poly_of(n, []), ())
            same(self, poly_of(n, ()), ())
            same(self, poly_of(n, [(noughts, (0, 1))]), ())
            same(self, poly_of(n, [(noughts, (1, 2)), (noughts, (-1, 2))]), ())
            same(self, poly_of(n, [(noughts, (1, 2)), (noughts, (1, 3))]), ((noughts, (5, 6)),))
        same(self, poly_of(2, [((1, 0), (1, 1)), ((0, 1), (2, 1)), ((1, 0), (1, 1))]),
             (((0, 1), (2, 1)), ((1, 0), (2, 1))))

    def test_added_times_scaled(self):
        for n in (0, 1, 2, 3, 6):
            for one in some_polys(n):
                for other in some_polys(n):
                    same(self, poly_added(one, other), come_to(as_fractions(one) + as_fractions(other)))
                    product = [(tuple(a + b for a, b in zip(mine, yours)), number * worth)
                               for mine, number in as_fractions(one) for yours, worth in as_fractions(other)]
                    same(self, poly_times(one, other), come_to(product))
                for number in ((0, 1), (1, 1), (-1, 1), (2, 3), (GREAT, 5)):
                    wanted = [(powers, worth * Fraction(*number)) for powers, worth in as_fractions(one)]
                    same(self, poly_scaled(number, one), come_to(wanted))

    def test_nought(self):
        one = (((0, 1), (1, 1)), ((1, 0), (2, 3)))
        same(self, poly_added((), one), one)
        same(self, poly_added(one, ()), one)
        same(self, poly_times((), one), ())
        same(self, poly_times(one, ()), ())
        same(self, poly_scaled((0, 1), one), ())
        same(self, poly_scaled((2, 1), ()), ())
        same(self, poly_added(one, poly_scaled((-1, 1), one)), ())
        same(self, value_of((), ((1, 2), (1, 3))), (0, 1))
        same(self, value_of((), ()), (0, 1))

    def test_products_in_which_terms_go(self):
        sum_of_two = (((0, 1), (1, 1)), ((1, 0), (1, 1)))
        less = (((0, 1), (-1, 1)), ((1, 0), (1, 1)))
        same(self, poly_times(sum_of_two, less), (((0, 2), (-1, 1)), ((2, 0), (1, 1))))

    def test_value_of(self):
        values = [(0, 1), (1, 1), (-1, 1), (2, 3), (-999999, 999998), (1, 999983)]
        for n in range(7):
            for poly in some_polys(n):
                for chosen in (tuple(values[:n]), tuple(values[::-1][:n]), ((0, 1),) * n):
                    wanted = Fraction(0)
                    for powers, number in as_fractions(poly):
                        for value, many in zip(chosen, powers):
                            number *= Fraction(*value) ** many
                        wanted += number
                    same(self, value_of(poly, chosen), (wanted.numerator, wanted.denominator))

    def test_nought_to_the_power_0(self):
        same(self, value_of((((0, 0), (5, 7)),), ((0, 1), (0, 1))), (5, 7))
        same(self, value_of((((0, 1), (5, 7)),), ((0, 1), (2, 1))), (10, 7))
        same(self, value_of((((1, 0), (5, 7)),), ((0, 1), (2, 1))), (0, 1))
        same(self, value_of((((), (5, 7)),), ()), (5, 7))

    def test_exchanged(self):
        same(self, exchanged((((3, 4, 5), (1, 1)),), (1, 2, 0)), (((5, 3, 4), (1, 1)),))
        same(self, exchanged((), (0, 2, 1)), ())
        same(self, exchanged((), ()), ())
        same(self, exchanged((((), (2, 1)),), ()), (((), (2, 1)),))
        for n in (1, 2, 3, 4):
            for poly in some_polys(n):
                for order in itertools.permutations(range(n)):
                    wanted = []
                    for powers, number in as_fractions(poly):
                        moved = [None] * n
                        for i in range(n):
                            moved[order[i]] = powers[i]
                        wanted.append((tuple(moved), number))
                    same(self, exchanged(poly, order), come_to(wanted))

    def test_exchanged_by_one_order_then_another(self):
        poly = (((0, 1, 2, 3), (1, 2)), ((3, 3, 0, 1), (4, 1)))
        for first in itertools.permutations(range(4)):
            for second in ((1, 2, 3, 0), (1, 0, 2, 3), (3, 1, 0, 2)):
                both = tuple(second[first[i]] for i in range(4))
                same(self, exchanged(exchanged(poly, first), second), exchanged(poly, both))

    def test_stays(self):
        for n in (0, 1):
            for poly in some_polys(n):
                self.assertIs(stays(n, poly), True)
        for n in range(7):
            self.assertIs(stays(n, ()), True)
            self.assertIs(stays(n, (((2,) * n, (1, 2)),)), True)
        self.assertIs(stays(2, (((0, 1), (1, 1)), ((1, 0), (1, 1)))), True)
        self.assertIs(stays(2, (((0, 1), (1, 1)), ((1, 0), (2, 1)))), False)
        self.assertIs(stays(2, (((0, 1), (1, 1)),)), False)
        self.assertIs(stays(2, (((0, 1), (-1, 1)), ((1, 0), (1, 1)))), False)

    def test_stays_is_of_each_exchange(self):
        all_orders = sorted(itertools.permutations((0, 1, 2)))
        for k in range(1, 64):
            poly = tuple((powers, (1, 1)) for at, powers in enumerate(all_orders) if k >> at & 1)
            wanted = all(exchanged(poly, order) == poly for order in ((1, 0, 2), (2, 1, 0), (0, 2, 1)))
            self.assertIs(stays(3, poly), wanted)
            self.assertIs(wanted, k == 63)
        turned = tuple((powers, (1, 1)) for powers in [(0, 0, 0, 1), (0, 0, 1, 0), (0, 1, 0, 0)])
        self.assertIs(stays(4, turned), False)

    def test_what_is_handed_in_stays(self):
        poly = some_polys(3)[5]
        kept = copy.deepcopy(poly)
        poly_added(poly, poly), poly_times(poly, poly), poly_scaled((2, 1), poly), exchanged(poly, (2, 0, 1))
        stays(3, poly), value_of(poly, ((1, 2), (2, 1), (0, 1)))
        same(self, poly, kept)


if __name__ == "__main__":
    unittest.main()
