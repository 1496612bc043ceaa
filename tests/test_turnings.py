import itertools
import unittest
from fractions import Fraction

from plain_things import ODD_THINGS, look, nested, same
from swapsums.sums import is_sum
from swapsums.turnings import are_turnings, around_turnings, turnings_sum


def orders_of(n):
    return list(itertools.permutations(range(n)))


def closed(*orders):
    """The TURNINGS that these ORDERs make together."""
    told = {tuple(range(len(orders[0])))}
    while True:
        more = told | {tuple(a[k] for k in b) for a in told | set(orders) for b in told | set(orders)}
        if more == told:
            return tuple(sorted(told))
        told = more


def is_closed(orders):
    return all(tuple(a[k] for k in b) in orders for a in orders for b in orders)


def rounds_by_hand(order):
    """The lengths of the ROUNDs, falling: each place goes till it is back, each ROUND by its least place."""
    lengths = []
    for start in range(len(order)):
        met = [start]
        while order[met[-1]] != start:
            met.append(order[met[-1]])
        if start == min(met):
            lengths.append(len(met))
    return tuple(sorted(lengths, reverse=True))


def sum_by_hand(turnings):
    shapes = [rounds_by_hand(order) for order in turnings]
    told = []
    for shape in sorted(set(shapes)):
        share = Fraction(shapes.count(shape), len(turnings))
        told.append((shape, (share.numerator, share.denominator)))
    return tuple(told)


# (n, TURNINGS): all moved around, with turning over too, all orders, the faces of a cube, and such as leave places.
TURNED = [(n, tuple(sorted(tuple((i + k) % n for i in range(n)) for k in range(n)))) for n in range(1, 7)]
TURNED += [(n, closed(tuple(range(1, n)) + (0,), tuple(range(n))[::-1])) for n in range(2, 7)]
TURNED += [(n, tuple(orders_of(n))) for n in range(1, 5)]
TURNED += [(n, (tuple(range(n)),)) for n in range(1, 7)]
TURNED += [(4, closed((1, 0, 3, 2), (2, 3, 0, 1))), (4, closed((1, 2, 0, 3), (1, 0, 3, 2))), (5, closed((1, 0, 3, 4, 2))),
           (6, closed((1, 2, 3, 0, 4, 5), (4, 1, 5, 3, 2, 0))), (6, closed((1, 0, 3, 2, 5, 4))),
           (6, closed((1, 0, 2, 3, 4, 5), (0, 1, 3, 2, 4, 5), (0, 1, 2, 3, 5, 4))), (6, closed((1, 2, 0, 4, 5, 3)))]


class AreTurnings(unittest.TestCase):
    def test_right_ones(self):
        self.assertEqual(sorted({len(turnings) for n, turnings in TURNED}), [1, 2, 3, 4, 5, 6, 8, 10, 12, 24])
        for n, turnings in TURNED:
            look(self, lambda thing: are_turnings(n, thing), [turnings], [()] + ODD_THINGS)

    def test_one_order_missing_twice_or_exchanged(self):
        for n, turnings in TURNED:
            for at, order in enumerate(turnings):
                rest = turnings[:at] + turnings[at + 1:]
                # One that is missing leaves them open, but where half of them or the one that leaves all stands alone.
                self.assertIs(are_turnings(n, rest), bool(rest) and is_closed(rest))
                self.assertIs(are_turnings(n, turnings[:at] + (order,) + turnings[at:]), False)
                for other in range(at):
                    swapped = list(turnings)
                    swapped[at], swapped[other] = swapped[other], swapped[at]
                    self.assertIs(are_turnings(n, tuple(swapped)), False)

    def test_one_number_otherwise(self):
        for n, turnings in TURNED:
            for at, order in enumerate(turnings):
                for place in range(n):
                    for number in (order[place] + 1, order[place] - 1, n, -1, str(order[place]), None):
                        other = order[:place] + (number,) + order[place + 1:]
                        self.assertIs(are_turnings(n, turnings[:at] + (other,) + turnings[at + 1:]), False)
                    for other in (order[:place] + order[place + 1:], order[:place] + (n,) + order[place:]):
                        self.assertIs(are_turnings(n, turnings[:at] + (other,) + turnings[at + 1:]), False)

    def test_truths_and_lists(self):
        self.assertIs(are_turnings(1, ((0,),)), True)
        self.assertIs(are_turnings(2, ((0, 1), (1, 0))), True)
        for thing in (((False,),), [(0,)], ([0],), [[0]], (0,), 0, False, True):
            self.assertIs(are_turnings(1, thing), False)
        for thing in (((0, True),), ((False, 1),), ((0, 1), (1, False)), ((0, 1), (True, 0)), [(0, 1), (1, 0)],
                      ((0, 1), [1, 0]), ([0, 1], (1, 0))):
            self.assertIs(are_turnings(2, thing), False)

    def test_of_one_place_more_or_fewer(self):
        for n, turnings in TURNED:
            for other in range(1, 8):
                self.assertIs(are_turnings(other, turnings), other == n)

    def test_all_subsets_of_orders_of_three(self):
        found = 0
        for many in range(7):
            for orders in itertools.combinations(orders_of(3), many):
                told = are_turnings(3, orders)
                self.assertIs(told, bool(orders) and is_closed(orders))
                found += told
        self.assertEqual(found, 6)

    def test_more_than_24(self):
        self.assertIs(are_turnings(5, tuple(orders_of(5))), False)
        self.assertIs(are_turnings(6, tuple(orders_of(6))), False)
        great = closed((1, 2, 0, 3, 4, 5), (0, 1, 2, 4, 5, 3), (1, 0, 2, 3, 4, 5), (0, 1, 2, 4, 3, 5))
        self.assertEqual(len(great), 36)
        self.assertIs(are_turnings(6, great), False)

    def test_other_kinds(self):
        for n in range(1, 7):
            for thing in (nested(40), "012", ((),), ((), ()), [[0, 1]], {}, (None,), ("012",), tuple(range(n))):
                self.assertIs(are_turnings(n, thing), False)


class TurningsSum(unittest.TestCase):
    def test_each_against_rounds_counted(self):
        for n, turnings in TURNED:
            told = turnings_sum(n, turnings)
            same(self, told, sum_by_hand(turnings))
            self.assertIs(is_sum(told), True)

    def test_plain_ones(self):
        same(self, turnings_sum(1, ((0,),)), (((1,), (1, 1)),))
        for n in range(1, 7):
            same(self, turnings_sum(n, (tuple(range(n)),)), (((1,) * n, (1, 1)),))
        same(self, turnings_sum(3, tuple(orders_of(3))), (((1, 1, 1), (1, 6)), ((2, 1), (1, 2)), ((3,), (1, 3))))
        same(self, turnings_sum(4, around_turnings(4)), (((1, 1, 1, 1), (1, 4)), ((2, 2), (1, 4)), ((4,), (1, 2))))
        same(self, turnings_sum(6, around_turnings(6)),
             (((1,) * 6, (1, 6)), ((2, 2, 2), (1, 6)), ((3, 3), (1, 3)), ((6,), (1, 3))))

    def test_all_shares_together_are_one(self):
        for n, turnings in TURNED:
            told = turnings_sum(n, turnings)
            self.assertEqual(sum(Fraction(*share) for shape, share in told), 1)
            self.assertTrue(all(sum(shape) == n for shape, share in told))


class AroundTurnings(unittest.TestCase):
    def test_each(self):
        for n in range(1, 7):
            told = around_turnings(n)
            same(self, told, tuple(tuple((i + k) % n for i in range(n)) for k in range(n)))
            self.assertEqual(list(told), sorted(set(told)))
            self.assertIs(are_turnings(n, told), True)

    def test_plain_ones(self):
        same(self, around_turnings(1), ((0,),))
        same(self, around_turnings(2), ((0, 1), (1, 0)))
        same(self, around_turnings(3), ((0, 1, 2), (1, 2, 0), (2, 0, 1)))


if __name__ == "__main__":
    unittest.main()
