import copy
import itertools
import unittest
from fractions import Fraction
from math import prod

from plain_things import same
from swapsums.leading import led
from swapsums.meaning import meant
from swapsums.products import times_sum
from swapsums.putin import lifted, put_in, put_telling
from swapsums.shapes import shapes_of
from swapsums.sums import added, is_sum, scaled
from test_products import value_at

WAYS = ["shapes", "powers", "choices", "repeats", "tables"]
ONE = (1, 1)
UNIT = (((), ONE),)
ITSELF = (((1,), ONE),)
SMALL = [
    (),
    UNIT,
    (((), (-7, 3)),),
    ITSELF,
    (((1,), (-1, 1)),),
    (((), (1, 2)), ((1,), (2, 1))),
    (((1, 1), (1, 2)), ((2,), (-1, 2))),
    (((), (5, 1)), ((1,), (-1, 3)), ((1, 1), ONE), ((2,), (999, 998))),
]
GREATER = SMALL + [
    (((2, 1), ONE),),
    (((1,), ONE), ((1, 1, 1), (2, 5)), ((2, 2), (-1, 1)), ((3, 1), (4, 1))),
    (((4,), (1, 4)),),
]
POINTS = [(Fraction(2), Fraction(-1, 3), Fraction(3, 2)), (Fraction(1), Fraction(-4))]


def powers_value(some, points):
    """The value of a SUM of powers."""
    return sum((Fraction(*number) * prod((sum(point ** part for point in points) for part in shape), start=Fraction(1))
                for shape, number in some), Fraction(0))


def put_in_value(outer, inner, points):
    """Each power sum of the outer one is the inner one at the points' powers."""
    return sum((Fraction(*number) * prod((powers_value(inner, [point ** part for point in points]) for part in shape),
                                         start=Fraction(1)) for shape, number in outer), Fraction(0))


def greatest(some):
    return max([sum(shape) for shape, number in some], default=0)


def telling_value(way, some, points):
    return sum((Fraction(*number) * value_at(way, shape, points) for shape, number in some), Fraction(0))


class Lifted(unittest.TestCase):
    def test_each_part(self):
        for some in GREATER:
            for k in range(1, 13):
                if k * greatest(some) <= 12:
                    wanted = tuple((tuple(part * k for part in shape), number) for shape, number in some)
                    same(self, lifted(k, some), wanted)
                    self.assertIs(is_sum(lifted(k, some)), True)

    def test_means_each_letters_power(self):
        for some in GREATER:
            for k in (1, 2, 3):
                for n in range(4):
                    wanted = tuple((tuple(k * power for power in powers), number)
                                   for powers, number in meant("powers", some, n))
                    same(self, meant("powers", lifted(k, some), n), wanted)

    def test_plain_ones(self):
        for k in range(1, 13):
            same(self, lifted(k, ()), ())
            same(self, lifted(k, (((), (-2, 3)),)), (((), (-2, 3)),))
            same(self, lifted(k, ITSELF), (((k,), ONE),))
        same(self, lifted(3, (((), (1, 2)), ((2, 1), (-1, 1)), ((4,), (5, 1)))),
             (((), (1, 2)), ((6, 3), (-1, 1)), ((12,), (5, 1))))

    def test_by_one_and_by_one_then_another(self):
        for some in GREATER:
            same(self, lifted(1, some), some)
            for k, j in ((2, 3), (3, 2), (1, 4), (2, 2)):
                same(self, lifted(j, lifted(k, some)), lifted(k * j, some))


class PutIn(unittest.TestCase):
    def test_against_values(self):
        for outer, inner in itertools.product(GREATER, repeat=2):
            if greatest(outer) * greatest(inner) <= 8:
                told = put_in(outer, inner)
                self.assertIs(is_sum(told), True)
                for points in POINTS:
                    self.assertEqual(powers_value(told, points), put_in_value(outer, inner, points))

    def test_numbers_stay(self):
        for number in ((1, 1), (-7, 3), (999, 2)):
            for some in GREATER:
                same(self, put_in((((), number),), some), (((), number),))
            same(self, put_in(ITSELF, (((), number),)), (((), number),))
            same(self, put_in((((6,), ONE),), (((), number),)), (((), number),))
        same(self, put_in((((2, 1), (1, 2)),), (((), (2, 3)),)), (((), (2, 9)),))

    def test_nought(self):
        for some in GREATER:
            same(self, put_in((), some), ())
            same(self, put_in(some, ()), tuple(pair for pair in some if pair[0] == ()))

    def test_the_first_power_alone_changes_nothing(self):
        for some in GREATER:
            same(self, put_in(ITSELF, some), some)
            same(self, put_in(some, ITSELF), some)

    def test_one_power_lifts(self):
        for some in GREATER:
            for k in (1, 2):
                same(self, put_in((((k,), ONE),), some), lifted(k, some))
                same(self, put_in(some, (((k,), ONE),)), lifted(k, some))

    def test_sums_and_products_as_the_outer_one(self):
        for one, other in itertools.product(SMALL, repeat=2):
            for inner in SMALL:
                both = put_in(one, inner), put_in(other, inner)
                same(self, put_in(added(one, other), inner), added(*both))
                same(self, put_in(times_sum("powers", one, other), inner), times_sum("powers", *both))
            same(self, put_in(scaled((-2, 3), one), other), scaled((-2, 3), put_in(one, other)))

    def test_three_in_either_brackets(self):
        for one, second, third in itertools.product(SMALL, repeat=3):
            same(self, put_in(put_in(one, second), third), put_in(one, put_in(second, third)))

    def test_plain_ones(self):
        same(self, put_in((((1, 1), ONE),), (((), ONE), ((1,), ONE))), (((), ONE), ((1,), (2, 1)), ((1, 1), ONE)))
        same(self, put_in((((2,), ONE),), (((1,), (3, 1)), ((2, 1), (-1, 2)))), (((2,), (3, 1)), ((4, 2), (-1, 2))))
        same(self, put_in((((2, 1), (1, 2)),), (((1, 1), ONE),)), (((2, 2, 1, 1), (1, 2)),))
        # What comes of both pairs goes.
        same(self, put_in((((1, 1), ONE), ((2,), (-1, 1))), (((), ONE),)), ())


class PutTelling(unittest.TestCase):
    def test_of_each_two_ways_to_each_way(self):
        some = (((1,), (1, 2)), ((2,), (-1, 1)))
        other = (((1, 1), (2, 1)), ((2, 1), (-1, 3)))
        points = (2, -1, 3)
        for outer_way, inner_way in itertools.product(WAYS, repeat=2):
            powers = put_in(led(outer_way, "powers", some), led(inner_way, "powers", other))
            wanted = put_in_value(led(outer_way, "powers", some), led(inner_way, "powers", other), points)
            for way in WAYS:
                told = put_telling((outer_way, some), (inner_way, other), way)
                self.assertIs(is_sum(told), True)
                same(self, told, led("powers", way, powers))
                self.assertEqual(telling_value(way, told, points), wanted)

    def test_known_ones(self):
        def told(outer, inner):
            return tuple((shape, top) for shape, (top, bottom) in put_telling(outer, inner, "tables"))
        two, three = (((2,), ONE),), (((3,), ONE),)
        same(self, told(("repeats", two), ("repeats", two)), (((2, 2), 1), ((4,), 1)))
        same(self, told(("choices", two), ("repeats", two)), (((3, 1), 1),))
        same(self, told(("repeats", two), ("choices", two)), (((1, 1, 1, 1), 1), ((2, 2), 1)))
        same(self, told(("choices", two), ("choices", two)), (((2, 1, 1), 1),))
        same(self, told(("repeats", three), ("repeats", two)), (((2, 2, 2), 1), ((4, 2), 1), ((6,), 1)))
        same(self, told(("repeats", two), ("repeats", three)), (((4, 2), 1), ((6,), 1)))
        same(self, told(("powers", two), ("tables", (((1, 1), ONE),))), (((1, 1, 1, 1), 1), ((2, 1, 1), -1), ((2, 2), 1)))

    def test_whole_numbers(self):
        whole = [(((1,), (-2, 1)), ((2, 1), ONE)), (((1, 1), ONE), ((3,), (-1, 1))), (((), (3, 1)), ((2,), ONE))]
        for outer_way, inner_way in itertools.product(("shapes", "choices", "repeats", "tables"), repeat=2):
            for outer, inner in itertools.product(whole, repeat=2):
                if greatest(outer) * greatest(inner) <= 6:
                    for way in ("shapes", "choices", "repeats", "tables"):
                        told = put_telling((outer_way, outer), (inner_way, inner), way)
                        self.assertTrue(all(bottom == 1 for shape, (top, bottom) in told))

    def test_tables_from_0_on(self):
        for size in range(1, 7):
            for many in range(1, 6 // size + 1):
                for outer, inner in itertools.product(shapes_of(size), shapes_of(many)):
                    told = put_telling(("tables", ((outer, ONE),)), ("tables", ((inner, ONE),)), "tables")
                    self.assertTrue(told)
                    self.assertTrue(all(top > 0 and bottom == 1 for shape, (top, bottom) in told))
        told = put_telling(("tables", (((1, 1), (2, 1)), ((2,), ONE))), ("tables", (((1, 1, 1), ONE), ((2, 1), (2, 1)))), "tables")
        self.assertTrue(all(top > 0 and bottom == 1 for shape, (top, bottom) in told))

    def test_edges(self):
        some = (((), (1, 3)), ((2, 1), (-1, 2)))
        for one, other, way in itertools.product(WAYS, repeat=3):
            same(self, put_telling((one, ()), (other, some), way), ())
            same(self, put_telling((one, some), (other, ()), way), (((), (1, 3)),))
            same(self, put_telling((one, (((), (7, 2)),)), (other, some), way), (((), (7, 2)),))
            same(self, put_telling((one, ITSELF), (other, some), way), led(other, way, some))
            same(self, put_telling((one, some), (other, ITSELF), way), led(one, way, some))

    def test_nothing_hangs_on_what_was_asked_before(self):
        asked = [((one, some), (other, some), way) for one in WAYS for other in WAYS for way in WAYS
                 for some in ((((1,), ONE), ((2,), (1, 2))),)]
        kept = copy.deepcopy(asked)
        first = [put_telling(*words) for words in asked]
        same(self, [put_telling(*words) for words in asked[::-1]][::-1], first)
        same(self, asked, kept)


if __name__ == "__main__":
    unittest.main()
