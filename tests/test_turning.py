import copy
import itertools
import unittest

from plain_things import same
from swapsums.leading import in_shapes, led
from swapsums.pairing import paired
from swapsums.products import times_sum
from swapsums.shapes import columns, shapes_of
from swapsums.sums import added, is_sum, scaled, sum_of
from swapsums.turning import turned_sum
from test_leading import SUMS, in_shapes_by_hand

WAYS = ["shapes", "powers", "choices", "repeats", "tables"]
ONE = (1, 1)


def sign_of(shape):
    return (-1) ** sum(part % 2 == 0 for part in shape)


class Turned(unittest.TestCase):
    def test_by_powers(self):
        for some in SUMS + [tuple((shape, (2, 3)) for shape in shapes_of(6))]:
            wanted = tuple((shape, (sign_of(shape) * top, bottom)) for shape, (top, bottom) in some)
            same(self, turned_sum("powers", some), wanted)

    def test_by_tables(self):
        for some in SUMS + [tuple((shape, (at + 1, 1)) for at, shape in enumerate(shapes_of(6)))]:
            same(self, turned_sum("tables", some), tuple(sorted((columns(shape), number) for shape, number in some)))

    def test_choices_taken_as_repeats(self):
        for size in range(7):
            for shape in shapes_of(size):
                told = turned_sum("choices", ((shape, ONE),))
                same(self, led("choices", "repeats", told), ((shape, ONE),))
                told = turned_sum("repeats", ((shape, ONE),))
                same(self, led("repeats", "choices", told), ((shape, ONE),))
                # What a choice means, turned, is what a repeat means.
                self.assertEqual(turned_sum("shapes", in_shapes("choices", shape)), in_shapes("repeats", shape))

    def test_by_each_way_it_is_one(self):
        for some in SUMS:
            for way in WAYS:
                told = turned_sum(way, some)
                self.assertIs(is_sum(told), True)
                by_powers = led(way, "powers", some)
                wanted = tuple((shape, (sign_of(shape) * top, bottom)) for shape, (top, bottom) in by_powers)
                self.assertEqual(in_shapes_by_hand(way, told), in_shapes_by_hand("powers", wanted))

    def test_twice(self):
        for some in SUMS:
            for way in WAYS:
                same(self, turned_sum(way, turned_sum(way, some)), some)

    def test_plain_ones(self):
        for way in WAYS:
            same(self, turned_sum(way, ()), ())
            same(self, turned_sum(way, (((), (-2, 7)),)), (((), (-2, 7)),))
            same(self, turned_sum(way, (((1,), (3, 4)),)), (((1,), (3, 4)),))
        same(self, turned_sum("shapes", (((2,), ONE),)), (((2,), (-1, 1)),))
        same(self, turned_sum("shapes", (((1, 1), ONE),)), (((1, 1), ONE), ((2,), ONE)))
        same(self, turned_sum("choices", (((2,), ONE),)), (((1, 1), ONE), ((2,), (-1, 1))))
        same(self, turned_sum("repeats", (((2,), (1, 3)),)), (((1, 1), (1, 3)), ((2,), (-1, 3))))
        same(self, turned_sum("powers", (((2, 1), (1, 2)), ((2, 2), ONE))), (((2, 1), (-1, 2)), ((2, 2), ONE)))
        same(self, turned_sum("tables", (((3, 1), (1, 2)),)), (((2, 1, 1), (1, 2)),))

    def test_is_linear(self):
        for way in WAYS:
            for one, other in itertools.combinations(SUMS, 2):
                same(self, turned_sum(way, added(one, scaled((-3, 5), other))),
                     added(turned_sum(way, one), scaled((-3, 5), turned_sum(way, other))))

    def test_products(self):
        one = sum_of([((), (1, 2)), ((2,), (3, 1)), ((2, 1), (-1, 1))])
        other = sum_of([((1,), (2, 1)), ((1, 1), (-1, 3)), ((3,), (1, 1))])
        for way in WAYS:
            same(self, turned_sum(way, times_sum(way, one, other)),
                 times_sum(way, turned_sum(way, one), turned_sum(way, other)))

    def test_both_turned_pair_alike(self):
        for way in WAYS:
            for other in WAYS:
                for one, second in itertools.product(SUMS[2:4], SUMS[2:6]):
                    turned = paired((way, turned_sum(way, one)), (other, turned_sum(other, second)))
                    same(self, turned, paired((way, one), (other, second)))

    def test_nothing_hangs_on_what_was_asked_before(self):
        asked = [(way, some) for way in WAYS for some in SUMS]
        kept = copy.deepcopy(asked)
        first = [turned_sum(*words) for words in asked]
        same(self, [turned_sum(*words) for words in asked[::-1]][::-1], first)
        same(self, asked, kept)


if __name__ == "__main__":
    unittest.main()
