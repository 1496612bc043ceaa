import copy
import functools
import itertools
import unittest
from fractions import Fraction

from plain_things import same
from swapsums.leading import are_one, in_shapes, led
from swapsums.meaning import meant
from swapsums.shapes import columns, is_shape, shapes_of
from swapsums.orders import is_above
from swapsums.sums import added, is_sum, scaled, sum_of

WAYS = ["shapes", "powers", "choices", "repeats", "tables"]
ONE = (1, 1)
SUMS = [
    (),
    (((), ONE),),
    (((), (-3, 2)), ((1,), ONE), ((2, 1), (5, 7))),
    (((1,), (4, 1)), ((1, 1), (-1, 3)), ((2,), (2, 1)), ((2, 2, 1), (-7, 1)), ((3, 1, 1, 1), ONE), ((6,), (999999, 2))),
    (((1, 1, 1, 1, 1, 1), (-1, 999983)), ((3, 2, 1), (1, 6)), ((4,), (3, 1))),
    (((2, 1, 1), (1, 2)), ((2, 2), (-1, 2)), ((3, 1), (7, 1)), ((4, 2), ONE), ((5,), (-2, 1))),
]
WHOLE = (((), (2, 1)), ((1, 1, 1), (-5, 1)), ((2, 1), (3, 1)), ((3, 3), (-1, 1)), ((4, 1, 1), (7, 1)), ((5,), ONE))


def part_terms(way, k, n):
    """The powers of n letters that a part means, by picking letters."""
    if way == "powers":
        chosen = [(letter,) * k for letter in range(n)]
    elif way == "choices":
        chosen = itertools.combinations(range(n), k)
    else:
        chosen = itertools.combinations_with_replacement(range(n), k)
    return [tuple(letters.count(letter) for letter in range(n)) for letters in chosen]


@functools.lru_cache(None)
def product_by_hand(way, shape, n):
    """Multiplied out with n letters: a dict of how often each powers come."""
    if not shape:
        return {(0,) * n: 1}
    told = {}
    for powers, many in product_by_hand(way, shape[1:], n).items():
        for more in part_terms(way, shape[0], n):
            both = tuple(map(sum, zip(powers, more)))
            told[both] = told.get(both, 0) + many
    return told


def order_sign(order):
    return (-1) ** sum(order[i] > order[j] for i in range(len(order)) for j in range(i + 1, len(order)))


@functools.lru_cache(None)
def row_by_hand(way, shape):
    """The numbers by shapes of a way and a shape: a dict, without noughts."""
    n = sum(shape)
    if way == "shapes":
        return {shape: 1}
    if way == "tables":
        told = {}
        for order in itertools.permutations(range(len(shape))):
            parts = [shape[i] - i + order[i] for i in range(len(shape))]
            if min(parts, default=0) >= 0:
                repeats = tuple(sorted((part for part in parts if part), reverse=True))
                for other, many in row_by_hand("repeats", repeats).items():
                    told[other] = told.get(other, 0) + order_sign(order) * many
    else:
        poly = product_by_hand(way, shape, n)
        told = {other: poly.get(other + (0,) * (n - len(other)), 0) for other in shapes_of(n)}
    return {other: many for other, many in told.items() if many}


def in_shapes_by_hand(way, some):
    """The numbers by shapes of a SUM of a way: a dict of fractions, without noughts."""
    told = {}
    for shape, number in some:
        for other, many in row_by_hand(way, shape).items():
            told[other] = told.get(other, 0) + Fraction(*number) * many
    return {other: number for other, number in told.items() if number}


def sum_from(numbers):
    """A SUM of a dict of fractions."""
    return tuple((shape, (Fraction(numbers[shape]).numerator, Fraction(numbers[shape]).denominator))
                 for shape in sorted(numbers) if numbers[shape])


class InShapes(unittest.TestCase):
    def test_against_a_count(self):
        for size in range(8):
            for shape in shapes_of(size):
                for way in WAYS:
                    told = in_shapes(way, shape)
                    same(self, told, sum_from(row_by_hand(way, shape)))
                    self.assertIs(is_sum(told), True)

    def test_plain_ones(self):
        for way in WAYS:
            same(self, in_shapes(way, ()), (((), ONE),))
            same(self, in_shapes(way, (1,)), (((1,), ONE),))
        same(self, in_shapes("shapes", (4, 2, 1)), (((4, 2, 1), ONE),))
        same(self, in_shapes("powers", (7,)), (((7,), ONE),))
        same(self, in_shapes("choices", (7,)), (((1,) * 7, ONE),))
        same(self, in_shapes("repeats", (3,)), (((1, 1, 1), ONE), ((2, 1), ONE), ((3,), ONE)))
        same(self, in_shapes("tables", (2, 1)), (((1, 1, 1), (2, 1)), ((2, 1), ONE)))
        same(self, in_shapes("powers", (1, 1)), (((1, 1), (2, 1)), ((2,), ONE)))
        same(self, in_shapes("powers", (2, 2)), (((2, 2), (2, 1)), ((4,), ONE)))
        same(self, in_shapes("choices", (2, 2)), (((1, 1, 1, 1), (6, 1)), ((2, 1, 1), (2, 1)), ((2, 2), ONE)))
        same(self, in_shapes("powers", (1,) * 7)[0], ((1,) * 7, (5040, 1)))

    def test_all_of_one_size_by_repeats_of_one_part(self):
        for size in range(1, 8):
            same(self, in_shapes("repeats", (size,)), tuple((shape, ONE) for shape in shapes_of(size)))

    def test_tables_are_beneath_their_shape_and_itself_once(self):
        for size in range(8):
            for shape in shapes_of(size):
                told = dict(in_shapes("tables", shape))
                self.assertEqual(sorted(told), [other for other in shapes_of(size) if is_above(shape, other)])
                same(self, told[shape], ONE)

    def test_choices_are_beneath_their_columns(self):
        for shape in shapes_of(7):
            told = in_shapes("choices", shape)
            same(self, told[-1], (columns(shape), ONE))


class Led(unittest.TestCase):
    def test_each_shape_by_each_two_ways(self):
        for size in range(7):
            for shape in shapes_of(size):
                for way in WAYS:
                    for other in WAYS:
                        told = led(way, other, ((shape, ONE),))
                        self.assertIs(is_sum(told), True)
                        self.assertTrue(all(sum(parts) == size for parts, number in told))
                        self.assertEqual(in_shapes_by_hand(other, told), row_by_hand(way, shape))
                        same(self, led(other, way, told), ((shape, ONE),))
                        if other != "powers":
                            self.assertTrue(all(bottom == 1 for parts, (top, bottom) in told))

    def test_of_sums(self):
        for some in SUMS:
            for way in WAYS:
                for other in WAYS:
                    told = led(way, other, some)
                    self.assertIs(is_sum(told), True)
                    self.assertEqual(in_shapes_by_hand(other, told), in_shapes_by_hand(way, some))
                    same(self, led(other, way, told), some)

    def test_by_a_third_way(self):
        for some in SUMS[2:5]:
            for way, third, other in itertools.product(WAYS, repeat=3):
                same(self, led(third, other, led(way, third, some)), led(way, other, some))

    def test_means_the_same(self):
        for some in SUMS:
            for way in WAYS:
                wanted = [meant(way, some, n) for n in range(5)]
                for other in WAYS:
                    told = led(way, other, some)
                    for n in range(5):
                        same(self, meant(other, told, n), wanted[n])

    def test_whole_numbers_stay_whole(self):
        for way in WAYS:
            for other in WAYS:
                told = led(way, other, WHOLE)
                if other != "powers":
                    self.assertTrue(all(bottom == 1 for shape, (top, bottom) in told))
        same(self, led("repeats", "powers", (((2,), ONE),)), (((1, 1), (1, 2)), ((2,), (1, 2))))

    def test_plain_ones(self):
        for way in WAYS:
            for other in WAYS:
                same(self, led(way, other, ()), ())
                same(self, led(way, other, (((), (-3, 7)),)), (((), (-3, 7)),))
                same(self, led(way, other, (((1,), (2, 5)),)), (((1,), (2, 5)),))
            for some in SUMS:
                same(self, led(way, way, some), some)
        same(self, led("shapes", "tables", (((2, 1), ONE),)), (((1, 1, 1), (-2, 1)), ((2, 1), ONE)))
        same(self, led("tables", "repeats", (((2, 1), ONE),)), (((2, 1), ONE), ((3,), (-1, 1))))
        same(self, led("tables", "choices", (((2, 1), ONE),)), (((2, 1), ONE), ((3,), (-1, 1))))
        same(self, led("choices", "powers", (((3,), ONE),)), (((1, 1, 1), (1, 6)), ((2, 1), (-1, 2)), ((3,), (1, 3))))
        same(self, led("powers", "tables", (((3,), ONE),)), (((1, 1, 1), ONE), ((2, 1), (-1, 1)), ((3,), ONE)))
        same(self, led("powers", "shapes", (((1, 1), ONE), ((2,), (-1, 1)))), (((1, 1), (2, 1)),))

    def test_is_linear(self):
        for way in WAYS:
            for other in WAYS:
                for one, second in itertools.combinations(SUMS, 2):
                    same(self, led(way, other, added(one, scaled((-2, 3), second))),
                         added(led(way, other, one), scaled((-2, 3), led(way, other, second))))

    def test_what_was_told_may_be_led_on(self):
        some = tuple((shape, (at + 1, 1)) for at, shape in enumerate(shapes_of(8)))
        for way in WAYS:
            for other in WAYS:
                same(self, led(other, way, led(way, other, some)), some)


def twenty_pairs():
    all_shapes = sorted(shape for size in range(7) for shape in shapes_of(size))
    shapes = all_shapes[::3] + all_shapes[1::3]
    return sum_of([(shape, (at * 3 - 20, at % 3 * 2 + 1)) for at, shape in enumerate(shapes)])


class AreOne(unittest.TestCase):
    def test_led_ones(self):
        for some in SUMS + [twenty_pairs()]:
            for way in WAYS:
                for other in WAYS:
                    told = led(way, other, some)
                    self.assertIs(are_one((way, some), (other, told)), True)
                    self.assertIs(are_one((other, told), (way, some)), True)

    def test_ones_that_differ_in_one_number(self):
        for some, step in ((SUMS[1], 1), (SUMS[2], 1), (SUMS[3], 3), (SUMS[4], 4), (twenty_pairs(), 7)):
            for way in WAYS:
                for other in WAYS:
                    told = led(way, other, some)
                    for at in range(0, len(told), step):
                        shape, (top, bottom) = told[at]
                        spoilt = sum_of(told[:at] + ((shape, (top + bottom, bottom)),) + told[at + 1:])
                        self.assertIs(are_one((way, some), (other, spoilt)), False)
                        self.assertIs(are_one((other, told[:at] + told[at + 1:]), (way, some)), False)

    def test_of_twenty_pairs(self):
        some = twenty_pairs()
        self.assertEqual(len(some), 20)
        for way in WAYS:
            self.assertIs(are_one((way, some), (way, some)), True)
            self.assertIs(are_one((way, some), (way, some[:-1])), False)
            self.assertIs(are_one((way, some[1:]), (way, some)), False)

    def test_nought(self):
        for way in WAYS:
            for other in WAYS:
                self.assertIs(are_one((way, ()), (other, ())), True)
                self.assertIs(are_one((way, (((), ONE),)), (other, (((), ONE),))), True)
                self.assertIs(are_one((way, ()), (other, (((), ONE),))), False)
                self.assertIs(are_one((way, (((3, 1), ONE),)), (other, ())), False)
                self.assertIs(are_one((way, (((1,), (1, 2)),)), (other, (((1,), (1, 2)),))), True)
                self.assertIs(are_one((way, (((1,), (1, 2)),)), (other, (((1,), (-1, 2)),))), False)

    def test_alike_with_few_letters_alone(self):
        # With two letters the product of three unlike ones is nought, with three it isn't.
        for way in ("shapes", "tables"):
            self.assertEqual(meant(way, (((1, 1, 1), ONE),), 2), ())
            self.assertIs(are_one((way, (((1, 1, 1), ONE),)), (way, ())), False)
        one = ("powers", (((1,) * 6, ONE),))
        other = ("shapes", in_shapes("powers", (1,) * 6)[1:])
        for n in range(6):
            self.assertEqual(meant(*one, n), meant(*other, n))
        self.assertIs(are_one(one, other), False)

    def test_same_words_by_other_ways(self):
        for one, other in itertools.permutations(WAYS, 2):
            alike = in_shapes_by_hand(one, WHOLE) == in_shapes_by_hand(other, WHOLE)
            self.assertIs(are_one((one, WHOLE), (other, WHOLE)), alike)
        self.assertIs(are_one(("repeats", (((3,), ONE),)), ("tables", (((3,), ONE),))), True)
        self.assertIs(are_one(("choices", (((3,), ONE),)), ("tables", (((1, 1, 1), ONE),))), True)
        self.assertIs(are_one(("choices", (((3,), ONE),)), ("tables", (((3,), ONE),))), False)

    def test_just_where_they_mean_the_same(self):
        several = [(way, ((shape, ONE),)) for way in WAYS for shape in shapes_of(3)]
        for one in several:
            for other in several:
                self.assertIs(are_one(one, other), meant(*one, 3) == meant(*other, 3))


class Kept(unittest.TestCase):
    def test_nothing_hangs_on_what_was_asked_before(self):
        asked = [(way, other, some) for way in WAYS for other in WAYS for some in SUMS[2:4]]
        kept = copy.deepcopy(asked)
        first = [led(*words) for words in asked]
        later = [led(*words) for words in asked[::-1]][::-1]
        same(self, first, later)
        same(self, asked, kept)
        self.assertTrue(all(is_shape(shape) for told in first for shape, number in told))


if __name__ == "__main__":
    unittest.main()
