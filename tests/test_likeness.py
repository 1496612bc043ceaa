import itertools
import unittest

from plain_things import same
from swapsums.errors import NoPaper
from swapsums.leading import led
from swapsums.likechecker import lets_like
from swapsums.likeness import like_paper
from swapsums.ratios import ratio
from swapsums.shapes import shapes_of
from swapsums.sums import added
from test_likechecker import answer_by_hand

WAYS = ["shapes", "powers", "choices", "repeats", "tables"]
ONE = (1, 1)
SUMS = [
    (),
    (((), (-5, 3)),),
    (((1,), (2, 1)),),
    (((), ONE), ((1, 1), (1, 2)), ((2, 1), (-3, 1)), ((2, 2, 1), (5, 7)), ((3,), ONE), ((5,), (-999999, 999983))),
    (((1, 1, 1, 1, 1), ONE), ((2, 1, 1, 1), (2, 1)), ((3, 1, 1), (-1, 3)), ((3, 2), (4, 1)), ((4, 1), (1, 6)), ((5,), ONE)),
]
# Of all shapes of sizes to 5 at once, with great numbers: such as what is led or added comes to.
WHOLE = tuple(sorted((shape, ratio(10 ** 39 + at, 10 ** 38 - at * at))
                     for at, shape in enumerate(shape for size in range(6) for shape in shapes_of(size))))


class LikePaper(unittest.TestCase):
    def paper_is(self, one, other, word):
        """The paper is let by with the word that is due, and one with the other word isn't."""
        paper = like_paper(one, other)
        same(self, paper[0], word)
        same(self, lets_like(one, other, paper), word)
        self.assertEqual(answer_by_hand(one, other, paper), word)
        return paper

    def test_each_two_ways_that_are_one(self):
        for some in SUMS:
            for way, second in itertools.product(WAYS, repeat=2):
                for base in ("shapes", "powers", "repeats"):
                    one, other = (way, led(base, way, some)), (second, led(base, second, some))
                    self.paper_is(one, other, "alike")
                    with self.assertRaises(NoPaper):
                        lets_like(one, other, ("unlike", (0, 1, 2, 3, 4)))

    def test_each_two_ways_that_differ_in_one_number(self):
        for some in SUMS:
            for way, second in itertools.product(WAYS, repeat=2):
                one, other = (way, led("shapes", way, some)), (second, led("shapes", second, some))
                paper = like_paper(one, other)
                for shape in ((), (1,), (2, 1), (2, 2, 1), (1, 1, 1, 1, 1)):
                    changed = (way, added(one[1], ((shape, (1, 1000)),)))
                    self.paper_is(changed, other, "unlike")
                    if len(shape) == 2:
                        self.paper_is(other, changed, "unlike")
                    with self.assertRaises(NoPaper) as told:
                        lets_like(changed, other, paper)
                    same(self, (told.exception.word, told.exception.number), ("sum", -1))

    def test_each_shape(self):
        for size in range(6):
            for shape in shapes_of(size):
                some = ((shape, ONE),)
                for way, second in itertools.product(WAYS, repeat=2):
                    self.paper_is((way, some), (second, led(way, second, some)), "alike")
                    word = "alike" if led(way, second, some) == some else "unlike"
                    self.paper_is((way, some), (second, some), word)

    def test_as_many_values_as_the_greatest_size(self):
        for size in range(1, 6):
            few = ("choices", (((size,), ONE),))
            paper = self.paper_is(few, ("tables", ()), "unlike")
            self.assertEqual(len(paper[1]), size)
            self.assertTrue(all(0 <= value <= size for value in paper[1]))

    def test_values_at_which_many_are_alike(self):
        # Nought at many of the values from 0 on.
        for some in ((((2, 1), ONE), ((3,), (-1, 1))), (((1,), (2, 1)), ((2,), (-3, 1)), ((3,), ONE)),
                     (((1,), (24, 1)), ((2,), (-50, 1)), ((3,), (35, 1)), ((4,), (-10, 1)), ((5,), ONE))):
            for way in WAYS:
                self.paper_is(("shapes", some), (way, ()), "unlike")
        # Nought where two letters are alike.
        two = led("powers", "shapes", (((1, 1), (-1, 1)), ((2,), (2, 1))))
        self.paper_is(("shapes", two), ("shapes", ()), "unlike")
        # With as many letters as the greatest size, nought at all values from 1 to it.
        for some in ((((), (-1, 1)), ((1,), ONE)), (((), (4, 1)), ((1,), (-3, 1)), ((2,), ONE)),
                     (((), (-600, 1)), ((1,), (274, 1)), ((2,), (-225, 1)), ((3,), (85, 1)), ((4,), (-15, 1)), ((5,), ONE))):
            paper = self.paper_is(("powers", some), ("tables", ()), "unlike")
            self.assertIn(0, paper[1])

    def test_nought(self):
        for way, second in itertools.product(WAYS, repeat=2):
            same(self, self.paper_is((way, ()), (second, ()), "alike"), ("alike", ()))
            self.paper_is((way, (((), ONE),)), (second, ()), "unlike")
            self.paper_is((way, ()), (second, (((3, 2), ONE),)), "unlike")

    def test_of_all_shapes_at_once(self):
        for way, second in itertools.product(WAYS, repeat=2):
            one, other = (way, led("shapes", way, WHOLE)), (second, led("shapes", second, WHOLE))
            paper = self.paper_is(one, other, "alike")
            self.assertLessEqual(len(paper[1]), 600)
            self.paper_is(one, (second, other[1][:-1]), "unlike")


if __name__ == "__main__":
    unittest.main()
