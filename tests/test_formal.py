import itertools
import unittest
from fractions import Fraction
from math import prod

from plain_things import ODD_THINGS, look, nested, same
from swapsums.formal import formal_added, formal_meant, formal_of, formal_times, is_factor, is_formal
from swapsums.letters import is_poly, poly_added, poly_times, value_of
from swapsums.meaning import meant
from swapsums.shapes import shapes_of
from test_meaning import POINTS, value_by_hand

WAYS = ["shapes", "powers", "choices", "repeats", "tables"]
ONE = (1, 1)
FACTORS = [("choice", 1), ("choice", 5), ("power", 1), ("power", 2), ("power", 10 ** 39), ("repeat", 3), ("shape", (1,)),
           ("shape", (2, 1)), ("shape", (10 ** 39,)), ("table", (1, 1, 1)), ("table", (4, 4))]
FORMALS = [
    (),
    (((), ONE),),
    (((), (-2, 3)), ((("power", 1),), ONE)),
    (((("choice", 2), ("power", 1), ("power", 1)), (5, 7)), ((("repeat", 3),), (-1, 1)), ((("shape", (2, 1)),), (1, 2))),
    (((("power", 1), ("table", (1, 1))), ONE), ((("power", 1), ("table", (2,))), (2, 1)), ((("power", 2),), (-3, 1))),
    (((("shape", (1,)), ("shape", (1,)), ("table", (1,))), (999999, 2)), ((("table", (3, 1)),), (-1, 999983))),
]


def by_dict(formal):
    return {factors: Fraction(*number) for factors, number in formal}


def as_formal(found):
    """The FORMAL SUM of a dict of Fractions."""
    return tuple((factors, (found[factors].numerator, found[factors].denominator))
                 for factors in sorted(found) if found[factors])


def added_by_hand(one, other):
    told = by_dict(one)
    for factors, number in by_dict(other).items():
        told[factors] = told.get(factors, 0) + number
    return as_formal(told)


def times_by_hand(one, other):
    told = {}
    for (mine, number), (yours, worth) in itertools.product(by_dict(one).items(), by_dict(other).items()):
        both = tuple(sorted(list(mine) + list(yours)))
        told[both] = told.get(both, 0) + number * worth
    return as_formal(told)


def formal_value(formal, xs):
    """The value of what a FORMAL SUM means, each FACTOR by the words of the document."""
    ways = {"power": "powers", "choice": "choices", "repeat": "repeats", "table": "tables", "shape": "shapes"}
    return sum((number * prod((value_by_hand(ways[word], part if isinstance(part, tuple) else (part,), xs)
                               for word, part in factors), start=Fraction(1))
                for factors, number in by_dict(formal).items()), Fraction(0))


class Kinds(unittest.TestCase):
    def test_is_factor(self):
        wrong = [("power", 0), ("power", -1), ("power", True), ("choice", True), ("repeat", False), ("power", (1,)),
                 ("power", ()), ("table", ()), ("shape", ()), ("table", 1), ("shape", 2), ("table", (1, 2)), ("shape", (0,)),
                 ("shape", (2, 0)), ("table", [2, 1]), ("shape", (True,)), ("shape", (2, True)), ("powers", 1), ("tables", (1,)),
                 ("Power", 1), ("", 1), ("power",), ("power", 1, 1), ("shape", (1,), (1,)), ["power", 1], [("power", 1)],
                 (("power", 1),), (1, "power"), ("power", "1"), ("power", None), "power", ("shape", "1"), (["power"], 1),
                 (("power",), 1), (None, 1), (True, 1), ((), ()), nested(40)]
        look(self, is_factor, FACTORS, wrong + ODD_THINGS)

    def test_is_formal(self):
        right = FORMALS + [tuple(((factor,), ONE) for factor in FACTORS), ((tuple(FACTORS), (1, 2)),)]
        one, two = (("power", 1),), (("power", 2),)
        wrong = [((one, (0, 1)),), ((one, (2, 4)),), ((one, (1, 0)),), ((one, (1, -1)),), ((one, (True, 1)),), ((one, (1, True)),),
                 ((one, [1, 1]),), ((one, 1),), ((one,),), ((one, ONE, ONE),), one, two, (one, ONE), ((two, ONE), (one, ONE)),
                 ((one, ONE), (one, ONE)), ((one, ONE), (one, (2, 1))), ((one, ONE), ((), ONE)), (((), ONE), ((), (2, 1))),
                 [(one, ONE)], ([one, ONE],), (([("power", 1)], ONE),), (((["power", 1],), ONE),), (((("power", 0),), ONE),),
                 (((("power", True),), ONE),), (((("table", ()),), ONE),), (((("power", 2), ("power", 1)), ONE),),
                 (((("shape", (2,)), ("power", 1)), ONE),), (((("shape", (2,)), ("shape", (1, 1))), ONE),),
                 (("power", 1),), (("power", ONE),), ((("power", 1), ONE),), (((("power", 1), 1), ONE),), nested(40),
                 (((("repeat", 1),), ONE), ((("power", 5),), ONE)), ("alike", ()), (((2, 1), ONE),)]
        look(self, is_formal, right, wrong + ODD_THINGS)
        self.assertIs(is_formal(((one + one, ONE),)), True)


class Formals(unittest.TestCase):
    def test_formal_of_each_way(self):
        some = (((), (3, 2)), ((1, 1), ONE), ((2,), (-1, 1)), ((2, 1), (1, 7)), ((2, 2, 1), (-5, 2)))
        for way, word in (("shapes", "shape"), ("tables", "table")):
            same(self, formal_of((way, some)), (((), (3, 2)), (((word, (1, 1)),), ONE), (((word, (2,)),), (-1, 1)),
                                                (((word, (2, 1)),), (1, 7)), (((word, (2, 2, 1)),), (-5, 2))))
        for way, word in (("powers", "power"), ("choices", "choice"), ("repeats", "repeat")):
            one, two = (word, 1), (word, 2)
            same(self, formal_of((way, some)), (((), (3, 2)), ((one, one), ONE), ((one, two), (1, 7)),
                                                ((one, two, two), (-5, 2)), ((two,), (-1, 1))))

    def test_formal_of_nought_and_of_the_shape_without_parts(self):
        for way in WAYS:
            same(self, formal_of((way, ())), ())
            same(self, formal_of((way, (((), (-7, 9)),))), (((), (-7, 9)),))

    def test_formal_of_each_shape(self):
        for way in WAYS:
            for size in range(7):
                some = tuple((shape, (at + 1, 1)) for at, shape in enumerate(shapes_of(size)))
                told = formal_of((way, some))
                self.assertIs(is_formal(told), True)
                self.assertEqual(len(told), len(some))

    def test_formal_added(self):
        for one, other in itertools.product(FORMALS, repeat=2):
            told = formal_added(one, other)
            same(self, told, added_by_hand(one, other))
            self.assertIs(is_formal(told), True)

    def test_formal_times(self):
        for one, other in itertools.product(FORMALS, repeat=2):
            told = formal_times(one, other)
            same(self, told, times_by_hand(one, other))
            self.assertIs(is_formal(told), True)

    def test_pairs_that_come_to_nought(self):
        one, two = ("power", 1), ("power", 2)
        some = (((one,), (1, 2)), ((two,), (-2, 3)))
        same(self, formal_added(some, (((one,), (-1, 2)),)), (((two,), (-2, 3)),))
        same(self, formal_added(some, (((one,), (-1, 2)), ((two,), (2, 3)))), ())
        # (a + b)(a - b): the middle falls out.
        same(self, formal_times((((one,), ONE), ((two,), ONE)), (((one,), ONE), ((two,), (-1, 1)))),
             (((one, one), ONE), ((two, two), (-1, 1))))
        same(self, formal_times(some, ()), ())
        same(self, formal_times((), some), ())
        same(self, formal_times((((), ONE),), some), some)
        # Nothing is worked out: these mean the same.
        same(self, formal_added((((one,), ONE),), (((("choice", 1),), (-1, 1)),)), (((("choice", 1),), (-1, 1)), ((one,), ONE)))

    def test_formal_meant(self):
        for formal in FORMALS:
            for n in range(4):
                told = formal_meant(n, formal)
                self.assertIs(is_poly(n, told), True)
                values = tuple((x.numerator, x.denominator) for x in POINTS[:n])
                wanted = formal_value(formal, POINTS[:n])
                same(self, value_of(told, values), (wanted.numerator, wanted.denominator))

    def test_each_telling_means_what_its_formal_sum_means(self):
        for way in WAYS:
            for size in range(6):
                some = tuple((shape, (2 * at + 1, 2)) for at, shape in enumerate(shapes_of(size)))
                for n in range(4):
                    same(self, formal_meant(n, formal_of((way, some))), meant(way, some, n))

    def test_meanings_multiplied_and_added(self):
        for one, other in itertools.product(FORMALS[:5], repeat=2):
            for n in range(3):
                first, second = formal_meant(n, one), formal_meant(n, other)
                same(self, formal_meant(n, formal_times(one, other)), poly_times(first, second))
                same(self, formal_meant(n, formal_added(one, other)), poly_added(first, second))

    def test_meant_edges(self):
        for n in range(4):
            same(self, formal_meant(n, ()), ())
            same(self, formal_meant(n, (((), (2, 3)),)), (((0,) * n, (2, 3)),))
        same(self, formal_meant(2, (((("choice", 3),), ONE),)), ())
        same(self, formal_meant(0, (((("power", 1),), ONE),)), ())
        same(self, formal_meant(1, (((("power", 2), ("repeat", 3)), (1, 2)),)), (((5,), (1, 2)),))


if __name__ == "__main__":
    unittest.main()
