import copy
import itertools
import unittest
from fractions import Fraction

from plain_things import ODD_THINGS, look, nested, same
from swapsums.sums import added, is_sum, is_telling, is_way, number_at, of_size, scaled, sum_of

WAYS = ["shapes", "powers", "choices", "repeats", "tables"]
SUMS = [
    (),
    (((), (1, 1)),),
    (((), (-3, 2)), ((1,), (1, 1)), ((1, 1), (5, 7)), ((2,), (-1, 1)), ((2, 1), (10 ** 29 + 1, 10 ** 29))),
    (((1, 1), (1, 3)), ((30, 30, 30, 30, 30), (2, 1))),
    (((1,), (-1, 1)), ((1, 1), (2, 7)), ((2,), (1, 1)), ((3,), (1, 1)), ((3, 1, 1), (-1, 2)), ((4,), (6, 1))),
]
WRONG_SUMS = [
    (((1,), (0, 1)),), (((1,), (2, 2)),), (((1,), (1, -1)),), (((0,), (1, 1)),), (((1, 2), (1, 1)),),
    (((1,), (1, 1)), ((1,), (1, 1))), (((2,), (1, 1)), ((1,), (1, 1))), (((1,), (1, 1)), ((), (1, 1))),
    (((1,), (1, 1)), ((3,), (1, 1)), ((2,), (1, 1))),
    (((1,), (1, 1), (1, 1)),), (((1,),),), ((),), ((1,), (1, 1)), ((1, 1), (1, 1)), (((1,), 1),), ((1, (1, 1)),),
    [((1,), (1, 1))], ([(1,), (1, 1)],), (([1], (1, 1)),), (((1,), [1, 1]),), (((True,), (1, 1)),),
    (((1,), (True, 1)),), (((1,), (1, True)),), (((), (1, 1)), None), (((), (1, 1)), ((), (1, 1))), nested(40),
]


def come_to(pairs):
    """What pairs come to, by fractions."""
    met = {}
    for shape, number in pairs:
        met[shape] = met.get(shape, 0) + Fraction(*number)
    return tuple((shape, (met[shape].numerator, met[shape].denominator)) for shape in sorted(met) if met[shape])


def forty_pairs():
    shapes = [(), (1,), (2, 1), (30, 2), (1, 1, 1, 1, 1), (3,), (3, 3)]
    numbers = [(1, 2), (-1, 2), (0, 1), (5, 3), (-999999, 7), (1, 1)]
    return [(shapes[k * k % 7], numbers[(k * 5 + k // 7) % 6]) for k in range(40)]


class Sums(unittest.TestCase):
    def test_is_way(self):
        wrong = ["", "Shapes", "shape", "shapes ", "power", "sums", "sh", "shapespowers", 0, None, ("shapes",),
                 ["shapes"], True, tuple(WAYS), list(WAYS)]
        look(self, is_way, WAYS, wrong + [thing for thing in ODD_THINGS if thing != "shapes"])

    def test_is_sum(self):
        look(self, is_sum, SUMS, WRONG_SUMS + ODD_THINGS)

    def test_is_sum_of_a_long_one(self):
        long = tuple(((part,), (1, 1)) for part in range(1, 5000))
        self.assertIs(is_sum(long), True)
        self.assertIs(is_sum(long + (((4999,), (1, 1)),)), False)
        self.assertIs(is_sum(long + (((5000,), (0, 1)),)), False)

    def test_is_telling(self):
        right = [(way, some) for way in WAYS for some in SUMS]
        wrong = [(way, some) for way in WAYS[:1] for some in WRONG_SUMS]
        wrong += [("shape", ()), ((), "shapes"), ("shapes",), ("shapes", (), ()), ["shapes", ()], ("shapes", []), "shapes",
                  (), (("shapes", ()),), (None, ()), (True, ()), nested(40)]
        look(self, is_telling, right, wrong + ODD_THINGS)

    def test_sum_of(self):
        pairs = forty_pairs()
        for many in range(41):
            same(self, sum_of(pairs[:many]), come_to(pairs[:many]))
            same(self, sum_of(tuple(pairs[:many])), come_to(pairs[:many]))
            self.assertIs(is_sum(sum_of(pairs[:many])), True)

    def test_sum_of_in_any_order(self):
        pairs = [((2,), (1, 2)), ((1,), (0, 1)), ((2,), (1, 3)), ((), (1, 1)), ((), (-1, 1))]
        for order in itertools.permutations(pairs):
            same(self, sum_of(list(order)), (((2,), (5, 6)),))

    def test_sum_of_plain_ones(self):
        same(self, sum_of([]), ())
        same(self, sum_of(()), ())
        same(self, sum_of([((1,), (0, 1))]), ())
        same(self, sum_of([((1,), (1, 2)), ((1,), (-1, 2))]), ())
        same(self, sum_of([((1,), (1, 2))] * 40), (((1,), (20, 1)),))
        same(self, sum_of([((2,), (1, 1)), ((1, 1), (1, 1)), ((10,), (1, 1)), ((), (1, 1))]),
             (((), (1, 1)), ((1, 1), (1, 1)), ((2,), (1, 1)), ((10,), (1, 1))))

    def test_what_is_handed_in_stays(self):
        pairs = forty_pairs()
        kept = copy.deepcopy(pairs)
        told = sum_of(pairs)
        same(self, pairs, kept)
        pairs.clear()
        same(self, told, come_to(kept))

    def test_added(self):
        for one in SUMS:
            for other in SUMS:
                same(self, added(one, other), come_to(one + other))
            same(self, added(one, tuple((shape, (-top, bottom)) for shape, (top, bottom) in one)), ())

    def test_scaled(self):
        for some in SUMS:
            same(self, scaled((0, 1), some), ())
            same(self, scaled((1, 1), some), some)
            for number in ((-1, 1), (2, 3), (-7, 5), (999999, 999998), (10 ** 29, 3)):
                wanted = [(shape, times_by_hand(number, worth)) for shape, worth in some]
                same(self, scaled(number, some), tuple(wanted))

    def test_of_size(self):
        for some in SUMS:
            for n in list(range(8)) + [150, 200]:
                same(self, of_size(some, n), tuple(pair for pair in some if sum(pair[0]) == n))
        same(self, of_size(SUMS[2], 0), (((), (-3, 2)),))
        same(self, of_size(SUMS[2], 2), (((1, 1), (5, 7)), ((2,), (-1, 1))))
        same(self, of_size(SUMS[3], 150), (((30,) * 5, (2, 1)),))

    def test_number_at(self):
        for some in SUMS:
            for shape, number in some:
                same(self, number_at(some, shape), number)
            for shape in ((7,), (999, 999), (1, 1, 1)):
                same(self, number_at(some, shape), (0, 1))
        same(self, number_at((), ()), (0, 1))
        same(self, number_at(SUMS[1], ()), (1, 1))


def times_by_hand(one, other):
    told = Fraction(*one) * Fraction(*other)
    return (told.numerator, told.denominator)


if __name__ == "__main__":
    unittest.main()
