import copy
import functools
import itertools
import unittest
from fractions import Fraction
from math import factorial, prod

from plain_things import same
from swapsums.leading import led
from swapsums.pairing import mate, number_by, paired
from swapsums.products import times_sum
from swapsums.ratios import is_ratio
from swapsums.shapes import shapes_of
from swapsums.sums import added, is_telling, number_at, scaled
from swapsums.turning import turned_sum
from test_leading import SUMS, in_shapes_by_hand, row_by_hand

WAYS = ["shapes", "powers", "choices", "repeats", "tables"]
ONE = (1, 1)


@functools.lru_cache(None)
def shapes_with_shapes(size):
    """What two shapes by shapes pair to: the numbers of repeats by shapes, turned about by rows."""
    shapes = shapes_of(size)
    rows = [[Fraction(row_by_hand("repeats", shape).get(other, 0)) for other in shapes]
            + [Fraction(shape == other) for other in shapes] for shape in shapes]
    many = len(shapes)
    for at in range(many):
        pivot = next(row for row in range(at, many) if rows[row][at])
        rows[at], rows[pivot] = rows[pivot], rows[at]
        rows[at] = [number / rows[at][at] for number in rows[at]]
        for row in range(many):
            if row != at:
                rows[row] = [number - rows[row][at] * less for number, less in zip(rows[row], rows[at])]
    return {(one, other): rows[i][many + j] for i, one in enumerate(shapes) for j, other in enumerate(shapes)}


def paired_by_hand(one, other):
    told = Fraction(0)
    for shape, number in in_shapes_by_hand(*one).items():
        for second, worth in in_shapes_by_hand(*other).items():
            if sum(shape) == sum(second):
                told += number * worth * shapes_with_shapes(sum(shape))[shape, second]
    return (told.numerator, told.denominator)


def weight_by_hand(shape):
    return prod(part ** shape.count(part) * factorial(shape.count(part)) for part in set(shape))


def alone(way, shape):
    return (way, ((shape, ONE),))


class Paired(unittest.TestCase):
    def test_of_each_two_shapes_by_each_two_ways(self):
        for size in range(5):
            for one, other in itertools.product(shapes_of(size), repeat=2):
                for way, second in itertools.product(WAYS, repeat=2):
                    told = paired(alone(way, one), alone(second, other))
                    same(self, told, paired_by_hand(alone(way, one), alone(second, other)))
                    same(self, told, paired(alone(second, other), alone(way, one)))

    def test_of_size_six(self):
        shapes = shapes_of(6)
        for way, second in itertools.product(WAYS, repeat=2):
            for at, one in enumerate(shapes):
                other = shapes[at * 4 % 11]
                same(self, paired(alone(way, one), alone(second, other)), paired_by_hand(alone(way, one), alone(second, other)))

    def test_mates_and_weights(self):
        for size in range(7):
            for one, other in itertools.product(shapes_of(size), repeat=2):
                alike = (1, 1) if one == other else (0, 1)
                same(self, paired(alone("shapes", one), alone("repeats", other)), alike)
                same(self, paired(alone("repeats", one), alone("shapes", other)), alike)
                same(self, paired(alone("tables", one), alone("tables", other)), alike)
                wanted = (weight_by_hand(one), 1) if one == other else (0, 1)
                same(self, paired(alone("powers", one), alone("powers", other)), wanted)

    def test_of_sums(self):
        for one, other in itertools.combinations_with_replacement(SUMS, 2):
            for way, second in itertools.product(WAYS, repeat=2):
                told = paired((way, one), (second, other))
                self.assertIs(is_ratio(told), True)
                same(self, told, paired_by_hand((way, one), (second, other)))
                same(self, told, paired((second, other), (way, one)))

    def test_led_anywhere_the_same(self):
        one = (((1,), (1, 2)), ((2, 1), (-3, 1)), ((3, 1), (5, 7)))
        other = (((1,), (4, 1)), ((1, 1, 1), (1, 3)), ((2, 1), ONE), ((2, 2), (-1, 1)))
        for way, second in itertools.product(WAYS, repeat=2):
            wanted = paired((way, one), (second, other))
            for third, fourth in itertools.product(WAYS, repeat=2):
                same(self, paired((third, led(way, third, one)), (fourth, led(second, fourth, other))), wanted)

    def test_unlike_sizes_and_nought(self):
        for way, second in itertools.product(WAYS, repeat=2):
            same(self, paired((way, ()), (second, ())), (0, 1))
            same(self, paired((way, ()), (second, SUMS[3])), (0, 1))
            same(self, paired((way, SUMS[3]), (second, ())), (0, 1))
            same(self, paired(alone(way, ()), alone(second, ())), (1, 1))
            same(self, paired(alone(way, ()), alone(second, (1,))), (0, 1))
            same(self, paired(alone(way, (2, 1)), alone(second, (2, 1, 1))), (0, 1))
            same(self, paired((way, (((), (2, 3)),)), (second, (((), (6, 5)), ((3,), (7, 1))))), (4, 5))

    def test_is_linear(self):
        one, other, third = SUMS[2:5]
        for way, second in itertools.product(WAYS, repeat=2):
            both = paired((way, added(one, scaled((-2, 3), other))), (second, third))
            apart = Fraction(*paired((way, one), (second, third))) - Fraction(2, 3) * Fraction(*paired((way, other), (second, third)))
            same(self, both, (apart.numerator, apart.denominator))

    def test_of_what_was_told(self):
        product = times_sum("tables", (((2, 1), ONE), ((3, 1), (1, 2))), (((2, 1), ONE), ((4,), (-1, 1))))
        wanted = sum(Fraction(*number) ** 2 for shape, number in product)
        same(self, paired(("tables", product), ("tables", product)), (wanted.numerator, wanted.denominator))


class Mate(unittest.TestCase):
    def test_against_all_shapes_of_its_size(self):
        for size in range(7):
            for way in WAYS:
                for shape in shapes_of(size):
                    told = mate(way, shape)
                    self.assertIs(is_telling(told), True)
                    for other in shapes_of(size):
                        same(self, paired_by_hand(told, alone(way, other)), (1, 1) if other == shape else (0, 1))
                    if size < 5:
                        for other in shapes_of(size) + shapes_of(size + 1):
                            same(self, paired(told, alone(way, other)), (1, 1) if other == shape else (0, 1))

    def test_as_told(self):
        for size in range(7):
            for shape in shapes_of(size):
                same(self, mate("shapes", shape), ("repeats", ((shape, ONE),)))
                same(self, mate("repeats", shape), ("shapes", ((shape, ONE),)))
                same(self, mate("tables", shape), ("tables", ((shape, ONE),)))
                same(self, mate("powers", shape), ("powers", ((shape, (1, weight_by_hand(shape))),)))
                same(self, mate("choices", shape), ("shapes", turned_sum("shapes", ((shape, ONE),))))
        same(self, mate("choices", (2,)), ("shapes", (((2,), (-1, 1)),)))
        same(self, mate("choices", (1, 1)), ("shapes", (((1, 1), ONE), ((2,), ONE))))
        same(self, mate("powers", (2, 1, 1)), ("powers", (((2, 1, 1), (1, 4)),)))
        same(self, mate("powers", ()), ("powers", (((), ONE),)))


class NumberBy(unittest.TestCase):
    def test_each_number_of_the_telling_led(self):
        for some in SUMS[:4]:
            for way, other in itertools.product(WAYS, repeat=2):
                told = led(other, way, some)
                for shape in [shape for shape, number in told][::3] + [(), (1,), (2, 1), (2, 2), (5,), (3, 1, 1, 1)]:
                    same(self, number_by(way, (other, some), shape), number_at(told, shape))

    def test_by_the_same_way(self):
        for some in SUMS:
            for way in WAYS:
                for shape, number in some:
                    same(self, number_by(way, (way, some), shape), number)
                for shape in ((3, 2), (4, 1, 1), (1, 1, 1)):
                    same(self, number_by(way, (way, some), shape), (0, 1))

    def test_of_nought(self):
        for way, other in itertools.product(WAYS, repeat=2):
            for shape in ((), (1,), (3, 2)):
                same(self, number_by(way, (other, ()), shape), (0, 1))
            same(self, number_by(way, (other, (((), (5, 3)),)), ()), (5, 3))
            same(self, number_by(way, (other, (((), (5, 3)),)), (1,)), (0, 1))

    def test_nothing_hangs_on_what_was_asked_before(self):
        asked = [(way, (other, some), shape) for way in WAYS for other in WAYS for some in SUMS[2:4] for shape in ((1,), (2, 1))]
        kept = copy.deepcopy(asked)
        first = [(number_by(*words), mate(words[0], words[2]), paired(words[1], words[1])) for words in asked]
        later = [(number_by(*words), mate(words[0], words[2]), paired(words[1], words[1])) for words in asked[::-1]]
        same(self, first, later[::-1])
        same(self, asked, kept)


if __name__ == "__main__":
    unittest.main()
