import copy
import itertools
import unittest

from plain_things import same
from swapsums.leading import led
from swapsums.letters import poly_of
from swapsums.meaning import meant
from swapsums.pairing import paired
from swapsums.products import times_sum
from swapsums.shapes import is_within, shapes_of
from swapsums.skews import skew_sum, taken_off
from swapsums.strips import counted
from swapsums.sums import added, is_sum, scaled
from swapsums.tables import content_of
from test_latticed import fillings_by_hand
from test_leading import in_shapes_by_hand
from test_tables import boxes_of, skews_to, tables_by_hand

WAYS = ["shapes", "powers", "choices", "repeats", "tables"]
ONE = (1, 1)
SUMS = [
    (),
    (((), ONE),),
    (((), (-1, 2)), ((1,), (3, 1)), ((2, 1), (5, 7))),
    (((2, 2, 1), (-7, 1)), ((3, 1, 1, 1), (1, 3)), ((6,), ONE)),
    (((1, 1), (2, 1)), ((3,), (-1, 1)), ((3, 1), ONE)),
]


class SkewSum(unittest.TestCase):
    def test_against_the_tables(self):
        for skew in skews_to(5):
            told = skew_sum(skew)
            self.assertIs(is_sum(told), True)
            for n in range(4):
                wanted = poly_of(n, [(content_of(n, table), ONE) for table in tables_by_hand(skew, n)])
                same(self, meant("tables", told, n), wanted)

    def test_of_outer_size_seven(self):
        # By shapes the sum has at each content so many TABLES.
        for skew in skews_to(7):
            told = skew_sum(skew)
            many = len(boxes_of(skew))
            self.assertTrue(all(top > 0 and bottom == 1 and sum(shape) == many for shape, (top, bottom) in told))
            wanted = {shape: counted(skew, shape) for shape in shapes_of(many)}
            self.assertEqual(in_shapes_by_hand("tables", told), {shape: number for shape, number in wanted.items() if number})

    def test_against_latticed_tables_gone_through(self):
        for skew in skews_to(7)[::5]:
            if len(boxes_of(skew)) <= 6:
                wanted = [(shape, len(fillings_by_hand(skew, shape))) for shape in shapes_of(len(boxes_of(skew)))]
                same(self, skew_sum(skew), tuple((shape, (number, 1)) for shape, number in wanted if number))

    def test_without_boxes(self):
        for size in range(8):
            for shape in shapes_of(size):
                same(self, skew_sum((shape, shape)), (((), ONE),))

    def test_straight_ones(self):
        for size in range(8):
            for shape in shapes_of(size):
                same(self, skew_sum((shape, ())), ((shape, ONE),))

    def test_plain_ones(self):
        same(self, skew_sum(((2, 1), (1,))), (((1, 1), ONE), ((2,), ONE)))
        same(self, skew_sum(((3, 2, 1), (2, 1))), (((1, 1, 1), ONE), ((2, 1), (2, 1)), ((3,), ONE)))
        same(self, skew_sum(((2, 2, 1), (2,))), (((2, 1), ONE),))
        same(self, skew_sum(((3, 1, 1), (1, 1))), (((2, 1), ONE), ((3,), ONE)))
        same(self, skew_sum(((2, 2), (1, 1))), (((1, 1), ONE),))
        same(self, skew_sum(((4, 2, 1), (2, 1))), added(added((((4,), ONE), ((3, 1), (2, 1))), (((2, 2), ONE),)), (((2, 1, 1), ONE),)))


class TakenOff(unittest.TestCase):
    def test_of_tables_shapes(self):
        shapes = [shape for size in range(7) for shape in shapes_of(size)]
        for one, other in itertools.product(shapes, repeat=2):
            wanted = skew_sum((one, other)) if is_within(other, one) else ()
            same(self, taken_off(("tables", ((one, ONE),)), ("tables", ((other, ONE),))), wanted)

    def test_against_paired_with_the_product(self):
        for one, other in itertools.product(SUMS[2:], SUMS[1:]):
            for way, second in itertools.product(WAYS, repeat=2):
                told = taken_off((way, one), (second, other))
                self.assertIs(is_sum(told), True)
                for shape in ((), (2,), (1, 1), (2, 1)):
                    third = WAYS[(sum(shape) + len(shape)) % 5]
                    if sum(shape) + max([sum(parts) for parts, number in other], default=0) <= 6:
                        product = times_sum(third, led(second, third, other), ((shape, ONE),))
                        same(self, paired(("tables", told), (third, ((shape, ONE),))), paired((way, one), (third, product)))

    def test_every_shape_of_one_way(self):
        one = ("powers", (((2, 1, 1), ONE), ((3, 1), (-1, 2)), ((4, 2), (2, 1))))
        other = ("choices", (((1,), (1, 3)), ((2,), ONE)))
        told = taken_off(one, other)
        for size in range(7):
            for shape in shapes_of(size):
                product = times_sum("choices", other[1], ((shape, ONE),))
                same(self, paired(("tables", told), ("choices", ((shape, ONE),))), paired(one, ("choices", product)))

    def test_led_it_is_the_same(self):
        for way, second in itertools.product(WAYS, repeat=2):
            one, other = (way, SUMS[3]), (second, SUMS[4])
            wanted = taken_off(one, other)
            for third in WAYS:
                same(self, taken_off((third, led(way, third, SUMS[3])), (third, led(second, third, SUMS[4]))), wanted)

    def test_nought_and_one(self):
        for way, second in itertools.product(WAYS, repeat=2):
            for some in SUMS:
                same(self, taken_off((way, ()), (second, some)), ())
                same(self, taken_off((way, some), (second, ())), ())
                same(self, taken_off((way, some), (second, (((), ONE),))), led(way, "tables", some))
            same(self, taken_off((way, (((1,), (1, 2)),)), (second, (((1,), (3, 1)),))), (((), (3, 2)),))
            same(self, taken_off((way, (((2,), ONE),)), (second, (((3,), ONE),))), ())

    def test_is_linear_in_both(self):
        for way, second in itertools.product(WAYS, repeat=2):
            for one, other, third in ((SUMS[2], SUMS[3], SUMS[4]), (SUMS[4], SUMS[2], SUMS[3])):
                both = added(one, scaled((-2, 3), other))
                same(self, taken_off((way, both), (second, third)),
                     added(taken_off((way, one), (second, third)), scaled((-2, 3), taken_off((way, other), (second, third)))))
                same(self, taken_off((second, third), (way, both)),
                     added(taken_off((second, third), (way, one)), scaled((-2, 3), taken_off((second, third), (way, other)))))

    def test_a_product_taken_off_is_one_behind_the_other(self):
        one, other = (((1,), ONE), ((2,), (1, 2))), (((1, 1), ONE),)
        for way in WAYS:
            whole = ("tables", (((3, 2, 1), ONE), ((4, 2), (2, 1))))
            both = taken_off(whole, (way, times_sum(way, one, other)))
            same(self, taken_off(("tables", taken_off(whole, (way, one))), (way, other)), both)

    def test_nothing_hangs_on_what_was_asked_before(self):
        asked = [((way, one), (second, other)) for way in WAYS for second in WAYS for one in SUMS[2:4] for other in SUMS[2:4]]
        kept = copy.deepcopy(asked)
        first = [taken_off(*words) for words in asked]
        same(self, [taken_off(*words) for words in asked[::-1]][::-1], first)
        same(self, asked, kept)


if __name__ == "__main__":
    unittest.main()
