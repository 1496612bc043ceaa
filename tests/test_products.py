import copy
import functools
import itertools
import unittest
from fractions import Fraction

from plain_things import same
from swapsums.latticed import latticed
from swapsums.leading import led
from swapsums.letters import poly_times
from swapsums.meaning import meant
from swapsums.products import times_sum
from swapsums.shapes import is_within, shapes_of
from swapsums.sums import added, is_sum, scaled, sum_of
from test_leading import row_by_hand
from test_meaning import repeats_value, value_by_hand

WAYS = ["shapes", "powers", "choices", "repeats", "tables"]
ONE = (1, 1)
UNIT = (((), ONE),)
SUMS = [
    (),
    UNIT,
    (((1,), (1, 2)),),
    (((), (2, 1)), ((1,), (-1, 3)), ((2,), ONE)),
    (((1, 1, 1), ONE), ((2, 1), (-1, 1)), ((3,), (5, 4))),
    (((), (-1, 6)), ((1,), ONE), ((1, 1), (-7, 2)), ((2,), (3, 1)), ((2, 1, 1), (1, 9)), ((4,), (-1, 1))),
]


def pairs_of_shapes(size):
    return [(one, other) for many in range(size + 1) for one in shapes_of(many) for other in shapes_of(size - many)]


def shapes_number_by_hand(shape, one, other):
    """All places for the one's parts, all places for the other's."""
    m = len(shape)
    if max(len(one), len(other)) > m:
        return 0
    mine = set(itertools.permutations(one + (0,) * (m - len(one))))
    yours = set(itertools.permutations(other + (0,) * (m - len(other))))
    return sum(tuple(whole - part for whole, part in zip(shape, parts)) in yours for parts in mine)


@functools.lru_cache(None)
def value_at(way, shape, points):
    """The value of what a way and a shape mean."""
    if way != "tables":
        return value_by_hand(way, shape, points)
    repeats = [repeats_value(k, points) for k in range(9)]
    return determinant([[repeats[part - i + j] if part - i + j >= 0 else 0 for j in range(len(shape))]
                        for i, part in enumerate(shape)])


def determinant(rows):
    """By the last row, where most are nought."""
    if not rows:
        return 1
    end = len(rows) - 1
    return sum((-1) ** (end - j) * number * determinant([row[:j] + row[j + 1:] for row in rows[:-1]])
               for j, number in enumerate(rows[-1]) if number)


class OfShapes(unittest.TestCase):
    def test_against_what_both_mean(self):
        for size in range(6):
            for one, other in pairs_of_shapes(size):
                for way in WAYS:
                    told = times_sum(way, ((one, ONE),), ((other, ONE),))
                    self.assertIs(is_sum(told), True)
                    for n in (size, 2):
                        wanted = poly_times(meant(way, ((one, ONE),), n), meant(way, ((other, ONE),), n))
                        same(self, meant(way, told, n), wanted)

    def test_sizes_to_eight_by_values(self):
        points = (2, -1, 3)
        met = {(way, shape): value_at(way, shape, points) for way in WAYS for size in range(9) for shape in shapes_of(size)}
        for one, other in pairs_of_shapes(8)[::3]:
            for way in WAYS:
                told = times_sum(way, ((one, ONE),), ((other, ONE),))
                self.assertTrue(all(sum(shape) == 8 for shape, number in told))
                self.assertEqual(sum(top * met[way, shape] for shape, (top, bottom) in told), met[way, one] * met[way, other])

    def test_sizes_to_eight_led_to_powers(self):
        # Parts laid together are sure; each other way must come to them.
        for size in (6, 7, 8):
            for one, other in pairs_of_shapes(size)[::7]:
                for way in WAYS:
                    told = times_sum(way, ((one, ONE),), ((other, ONE),))
                    product = {}
                    for first, number in led(way, "powers", ((one, ONE),)):
                        for second, worth in led(way, "powers", ((other, ONE),)):
                            shape = tuple(sorted(first + second, reverse=True))
                            product[shape] = product.get(shape, 0) + Fraction(*number) * Fraction(*worth)
                    wanted = tuple((shape, (product[shape].numerator, product[shape].denominator))
                                   for shape in sorted(product) if product[shape])
                    same(self, led(way, "powers", told), wanted)

    def test_by_powers_choices_repeats(self):
        for way in ("powers", "choices", "repeats"):
            for one, other in pairs_of_shapes(8):
                shape = tuple(sorted(one + other, reverse=True))
                same(self, times_sum(way, ((one, (2, 3)),), ((other, (-3, 1)),)), ((shape, (-2, 1)),))

    def test_by_tables(self):
        for size in range(9):
            for one, other in pairs_of_shapes(size)[::1 if size < 7 else 5]:
                wanted = [(outer, len(latticed((outer, one), other))) for outer in shapes_of(size) if is_within(one, outer)]
                told = times_sum("tables", ((one, ONE),), ((other, ONE),))
                same(self, told, tuple((outer, (many, 1)) for outer, many in wanted if many))
                same(self, told, times_sum("tables", ((other, ONE),), ((one, ONE),)))

    def test_by_shapes(self):
        for size in range(7):
            for one, other in pairs_of_shapes(size):
                wanted = [(shape, shapes_number_by_hand(shape, one, other)) for shape in shapes_of(size)]
                told = times_sum("shapes", ((one, ONE),), ((other, ONE),))
                same(self, told, tuple((shape, (many, 1)) for shape, many in wanted if many))

    def test_plain_ones(self):
        def told(way, one, other):
            return tuple((shape, top) for shape, (top, bottom) in times_sum(way, ((one, ONE),), ((other, ONE),)))
        same(self, told("tables", (2, 1), (2, 1)),
             (((2, 2, 1, 1), 1), ((2, 2, 2), 1), ((3, 1, 1, 1), 1), ((3, 2, 1), 2), ((3, 3), 1), ((4, 1, 1), 1), ((4, 2), 1)))
        same(self, told("tables", (1,), (1,)), (((1, 1), 1), ((2,), 1)))
        same(self, told("tables", (4,), (1, 1)), (((4, 1, 1), 1), ((5, 1), 1)))
        same(self, told("shapes", (1,), (1,)), (((1, 1), 2), ((2,), 1)))
        same(self, told("shapes", (2, 1), (1,)), (((2, 1, 1), 2), ((2, 2), 2), ((3, 1), 1)))
        same(self, told("shapes", (2,), (2,)), (((2, 2), 2), ((4,), 1)))
        same(self, told("shapes", (1, 1), (1, 1)), (((1, 1, 1, 1), 6), ((2, 1, 1), 2), ((2, 2), 1)))
        same(self, told("powers", (3, 1), (2, 2)), (((3, 2, 2, 1), 1),))


class OfSums(unittest.TestCase):
    def test_pair_with_pair(self):
        for way in WAYS:
            for one in SUMS:
                for other in SUMS:
                    wanted = ()
                    for shape, (top, bottom) in one:
                        for second, (height, depth) in other:
                            number = Fraction(top * height, bottom * depth)
                            product = times_sum(way, ((shape, ONE),), ((second, ONE),))
                            wanted = added(wanted, scaled((number.numerator, number.denominator), product))
                    told = times_sum(way, one, other)
                    self.assertIs(is_sum(told), True)
                    same(self, told, wanted)
                    same(self, times_sum(way, other, one), told)

    def test_against_what_both_mean(self):
        for way in WAYS:
            for one, other in itertools.product(SUMS, SUMS[3:]):
                told = times_sum(way, one, other)
                for n in range(4):
                    same(self, meant(way, told, n), poly_times(meant(way, one, n), meant(way, other, n)))

    def test_nought_and_one(self):
        for way in WAYS:
            for some in SUMS:
                same(self, times_sum(way, (), some), ())
                same(self, times_sum(way, some, ()), ())
                same(self, times_sum(way, UNIT, some), some)
                same(self, times_sum(way, some, UNIT), some)
                same(self, times_sum(way, (((), (-2, 3)),), some), scaled((-2, 3), some))

    def test_products_that_cancel(self):
        one = (((1,), ONE), ((2,), ONE))
        less = (((1,), ONE), ((2,), (-1, 1)))
        for way in WAYS:
            squares = added(times_sum(way, (((1,), ONE),), (((1,), ONE),)),
                            scaled((-1, 1), times_sum(way, (((2,), ONE),), (((2,), ONE),))))
            same(self, times_sum(way, one, less), squares)
            self.assertFalse([shape for shape, number in times_sum(way, one, less) if sum(shape) == 3])
        same(self, times_sum("powers", one, less), (((1, 1), ONE), ((2, 2), (-1, 1))))
        same(self, times_sum("shapes", one, less), (((1, 1), (2, 1)), ((2,), ONE), ((2, 2), (-2, 1)), ((4,), (-1, 1))))

    def test_six_pairs_with_six(self):
        six = sum_of([(shape, (at + 1, 7)) for at, shape in enumerate([(), (1, 1), (2,), (2, 2), (3, 1), (4,)])])
        for points in ((2, -1, 3), (1, 1, -2, 5)):
            for way in WAYS:
                told = times_sum(way, six, six)
                value = sum(Fraction(*number) * value_at(way, shape, points) for shape, number in six)
                self.assertEqual(sum(Fraction(*number) * value_at(way, shape, points) for shape, number in told), value ** 2)

    def test_three_in_either_brackets(self):
        one, second, third = SUMS[3], (((1,), ONE), ((1, 1), (-1, 2))), (((2,), (3, 1)),)
        for way in WAYS:
            same(self, times_sum(way, times_sum(way, one, second), third),
                 times_sum(way, one, times_sum(way, second, third)))

    def test_one_led_to_each_way_is_one(self):
        for way in WAYS:
            for other in WAYS:
                for one, second in itertools.combinations(SUMS[2:5], 2):
                    product = times_sum(other, led(way, other, one), led(way, other, second))
                    same(self, led(way, other, times_sum(way, one, second)), product)

    def test_nothing_hangs_on_what_was_asked_before(self):
        asked = [(way, one, other) for way in WAYS for one in SUMS[3:] for other in SUMS[3:]]
        kept = copy.deepcopy(asked)
        first = [times_sum(*words) for words in asked]
        same(self, [times_sum(*words) for words in asked[::-1]][::-1], first)
        same(self, asked, kept)

    def test_rows_by_hand_multiply(self):
        # The count of a shape by powers, choices, repeats is its parts' product by shapes.
        for way in ("powers", "choices", "repeats"):
            for shape in shapes_of(6):
                told = UNIT
                for part in shape:
                    told = times_sum("shapes", told, tuple(sorted((other, (many, 1)) for other, many
                                                                  in row_by_hand(way, (part,)).items())))
                same(self, dict(told), {other: (many, 1) for other, many in sorted(row_by_hand(way, shape).items())})


if __name__ == "__main__":
    unittest.main()
