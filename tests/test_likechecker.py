import copy
import functools
import itertools
import unittest
from fractions import Fraction

from plain_things import ODD_THINGS, nested, same, spoilt
from swapsums.errors import NoPaper
from swapsums.leading import led
from swapsums.likechecker import lets_like
from test_formal import added_by_hand, as_formal, by_dict
from test_meaning import value_by_hand
from test_rules import rule_by_hand

WAYS = ["shapes", "powers", "choices", "repeats", "tables"]
ONE = (1, 1)
WORDS = {"powers": "power", "choices": "choice", "repeats": "repeat", "tables": "table", "shapes": "shape"}


def formal_by_hand(telling):
    way, some = telling
    told = {}
    for shape, number in some:
        if way in ("tables", "shapes"):
            factors = ((WORDS[way], shape),) if shape else ()
        else:
            factors = tuple(sorted((WORDS[way], part) for part in shape))
        told[factors] = Fraction(*number)
    return as_formal(told)


def negative(formal):
    return as_formal({factors: -number for factors, number in by_dict(formal).items()})


def rows_by_hand(rows):
    """The FORMAL SUM that rows come to."""
    told = {}
    for word, thing, factors, number in rows:
        for others, worth in rule_by_hand(word, thing).items():
            both = tuple(sorted(factors + others))
            told[both] = told.get(both, Fraction(0)) + worth * Fraction(*number)
    return as_formal(told)


@functools.lru_cache(None)
def shape_value(way, shape, values):
    return value_by_hand(way, shape, [Fraction(value) for value in values])


def telling_value(telling, values):
    return sum((Fraction(*number) * shape_value(telling[0], shape, values) for shape, number in telling[1]), Fraction(0))


def is_whole(thing):
    return type(thing) is int


def is_small_shape(thing):
    return (type(thing) is tuple and all(is_whole(part) and part >= 1 for part in thing) and sum(thing) <= 8
            and list(thing) == sorted(thing, reverse=True))


def is_rule_by_hand(word, thing):
    if word in ("both", "power-repeat", "power-choice"):
        return is_whole(thing) and 1 <= thing <= 8
    if word == "table":
        return is_small_shape(thing) and 1 <= len(thing) <= 5
    return (word == "shape" and type(thing) is tuple and len(thing) == 2 and is_whole(thing[0]) and 1 <= thing[0] <= 8
            and is_small_shape(thing[1]))


def is_row_by_hand(row):
    if type(row) is not tuple or len(row) != 4 or not is_rule_by_hand(row[0], row[1]):
        return False
    factors, number = row[2:]
    if type(factors) is not tuple or len(factors) > 8:
        return False
    for factor in factors:
        if type(factor) is not tuple or len(factor) != 2:
            return False
        if factor[0] in ("power", "choice", "repeat"):
            if not is_whole(factor[1]) or not 1 <= factor[1] <= 8:
                return False
        elif factor[0] not in ("table", "shape") or not is_small_shape(factor[1]) or not factor[1]:
            return False
    if list(factors) != sorted(factors) or type(number) is not tuple or len(number) != 2:
        return False
    return all(is_whole(part) for part in number) and number[1] >= 1 and Fraction(*number).denominator == number[1]


def answer_by_hand(one, other, thing):
    """The word that is told, or the (word, number) with which it is refused."""
    if type(thing) is not tuple or len(thing) != 2 or thing[0] not in ("alike", "unlike") or type(thing[1]) is not tuple:
        return ("shape", -1)
    word, told = thing
    if word == "alike":
        if len(told) > 600:
            return ("shape", -1)
        for k, row in enumerate(told):
            if not is_row_by_hand(row):
                return ("row", k)
        wanted = added_by_hand(formal_by_hand(one), negative(formal_by_hand(other)))
        return "alike" if rows_by_hand(told) == wanted else ("sum", -1)
    if len(told) > 5 or not all(is_whole(value) and 0 <= value <= 9 for value in told):
        return ("shape", -1)
    return "unlike" if telling_value(one, told) != telling_value(other, told) else ("values", -1)


# (the one, the other, a paper that they are ONE), written by hand.
ALIKE = [
    (("tables", (((2,), ONE),)), ("repeats", (((2,), ONE),)), (("table", (2,), (), ONE),)),
    (("repeats", (((1,), ONE),)), ("choices", (((1,), ONE),)), (("both", 1, (), ONE),)),
    (("choices", (((1,), ONE),)), ("repeats", (((1,), ONE),)), (("both", 1, (), (-1, 1)),)),
    (("shapes", (((3,), ONE),)), ("powers", (((3,), ONE),)), (("shape", (3, ()), (), (-1, 1)),)),
    (("repeats", (((2,), ONE),)), ("powers", (((1, 1), (1, 2)), ((2,), (1, 2)))),
     (("power-repeat", 1, (("power", 1),), (1, 2)), ("power-repeat", 2, (), (1, 2)))),
    (("choices", (((2,), (3, 1)),)), ("powers", (((1, 1), (3, 2)), ((2,), (-3, 2)))),
     (("power-choice", 2, (), (3, 2)), ("power-choice", 1, (("power", 1),), (3, 2)))),
    (("shapes", (((1, 1), ONE),)), ("powers", (((1, 1), (1, 2)), ((2,), (-1, 2)))),
     (("shape", (1, (1,)), (), (-1, 2)), ("shape", (1, ()), (("power", 1),), (-1, 2)), ("shape", (2, ()), (), (1, 2)))),
    (("repeats", (((1, 1), ONE),)), ("powers", (((1, 1), ONE),)),
     (("power-repeat", 1, (("repeat", 1),), ONE), ("power-repeat", 1, (("power", 1),), ONE))),
]
UNLIKE = [
    (("powers", (((1,), ONE),)), ("powers", (((2,), ONE),)), (2,)),
    (("powers", (((1,), ONE),)), ("tables", ()), (1,)),
    (("shapes", (((), ONE),)), ("tables", ()), ()),
    (("choices", (((2, 2), ONE),)), ("shapes", (((2, 2), ONE),)), (9, 9, 9, 9, 9)),
    (("tables", (((2, 1), (1, 2)),)), ("repeats", (((3,), (1, 2)),)), (0, 9)),
]


class LetsLike(unittest.TestCase):
    def like(self, one, other, thing, wanted):
        """The word, or refused with just these; nothing is changed."""
        self.assertEqual(answer_by_hand(one, other, thing), wanted)
        kept, written = copy.deepcopy(thing), repr(thing)
        if isinstance(wanted, str):
            same(self, lets_like(one, other, thing), wanted)
        else:
            with self.assertRaises(NoPaper) as told:
                lets_like(one, other, thing)
            same(self, (told.exception.word, told.exception.number), wanted)
        self.assertEqual((thing, repr(thing)), (kept, written))

    def test_right_ones(self):
        for one, other, rows in ALIKE:
            self.like(one, other, ("alike", rows), "alike")
            self.like(one, other, ("alike", rows[::-1]), "alike")
        for one, other, values in UNLIKE:
            self.like(one, other, ("unlike", values), "unlike")
            self.like(other, one, ("unlike", values), "unlike")

    def test_alike_as_they_stand(self):
        for way in WAYS:
            for some in ((), (((), (2, 3)),), (((1, 1), ONE), ((2, 1), (-1, 2)))):
                self.like((way, some), (way, some), ("alike", ()), "alike")
        self.like(("shapes", (((), ONE),)), ("tables", (((), ONE),)), ("alike", ()), "alike")
        self.like(("shapes", ()), ("tables", ()), ("alike", ()), "alike")
        # Unlike FACTORS are unlike, though they mean the same.
        self.like(("shapes", (((1,), ONE),)), ("tables", (((1,), ONE),)), ("alike", ()), ("sum", -1))

    def test_no_such_pair(self):
        one, other, rows = ALIKE[0]
        for thing in ODD_THINGS + [nested(40), rows, ("alike",), ("alike", rows, ()), ["alike", rows], ("alike", list(rows)),
                                   ("Alike", rows), ("", rows), (None, rows), ("alike", None), ("alike", "rows"), ("unlike", rows),
                                   (rows, "alike"), ("values", ()), ("alike", 1), (("alike", rows),), ("one", rows)]:
            self.like(one, other, thing, ("shape", -1))

    def test_rows_otherwise(self):
        for one, other, rows in ALIKE:
            for k, row in enumerate(rows):
                for wrong in spoilt(row):
                    self.like(one, other, ("alike", rows[:k] + (wrong,) + rows[k + 1:]), ("row", k))
                word, thing, factors, number = row
                for wrong in [(word, thing, factors), row + (1,), (), (word, 9, factors, number), (word, 0, factors, number),
                              (word, thing, factors + (("power", 9),), number), (word, thing, (("power", 0),), number),
                              (word, thing, (("table", ()),), number), (word, thing, (("table", (9,)),), number),
                              (word, thing, (("shape", (1,) * 9),), number), (word, thing, (("power", 2), ("power", 1)), number),
                              (word, thing, (("power", 1),) * 9, number), (word, thing, factors, (2, 4)),
                              (word, thing, factors, (1, 0)), (word, thing, factors, (1, -1)), (word, thing, factors, (0, 2)),
                              (word, thing, factors, 1), ("none", thing, factors, number), (thing, word, factors, number)]:
                    self.like(one, other, ("alike", rows[:k] + (wrong,) + rows[k + 1:]), ("row", k))
                    # The first such, ahead of the sum.
                    self.like(one, other, ("alike", (wrong,) + rows + (wrong,)), ("row", 0))
                    self.like(one, other, ("alike", rows + (None, wrong)), ("row", len(rows)))

    def test_rows_that_do_not_add_up(self):
        for one, other, rows in ALIKE:
            for k, (word, thing, factors, number) in enumerate(rows):
                others = [(word, thing, factors, (-number[0], number[1])), (word, thing, factors, (number[0] + number[1], number[1])),
                          (word, thing, tuple(sorted(factors + (("power", 1),))), number), (word, thing, factors, (0, 1)),
                          ("both", 3, factors, number), ("table", (2, 2), factors, number)]
                for row in others:
                    self.like(one, other, ("alike", rows[:k] + (row,) + rows[k + 1:]), ("sum", -1))
                self.like(one, other, ("alike", rows[:k] + rows[k + 1:]), ("sum", -1))
                self.like(one, other, ("alike", rows + (rows[k],)), ("sum", -1))
            self.like(other, one, ("alike", rows), ("sum", -1))
            self.like(one, ("tables", one[1] + (((5,), ONE),)), ("alike", rows), ("sum", -1))

    def test_noughts_and_rows_alike(self):
        nought = ("both", 8, (("power", 8),) * 8, (0, 1))
        for one, other, rows in ALIKE:
            halves = tuple((word, thing, factors, (Fraction(*number) / 2).as_integer_ratio())
                           for word, thing, factors, number in rows)
            self.like(one, other, ("alike", halves + halves), "alike")
            self.like(one, other, ("alike", (nought,) + rows + (nought, nought)), "alike")
            there = ("table", (2, 1), (("choice", 4),), (7, 3))
            back = ("table", (2, 1), (("choice", 4),), (-7, 3))
            self.like(one, other, ("alike", (there,) + rows + (back,)), "alike")

    def test_edges_of_rows(self):
        one, other, rows = ALIKE[0]
        for factors in ((("power", 8),) * 8, (("shape", (1,) * 8), ("table", (8,))), (("choice", 8), ("repeat", 8))):
            there, back = ("shape", (8, (4, 4)), factors, ONE), ("shape", (8, (4, 4)), factors, (-1, 1))
            self.like(one, other, ("alike", (there, back) + rows), "alike")
            self.like(one, other, ("alike", (there,) + rows), ("sum", -1))
        self.like(one, other, ("alike", rows + (("both", 1, (("power", 1),) * 9, (0, 1)),)), ("row", 1))

    def test_600_rows_and_601(self):
        one, other, rows = ALIKE[0]
        nought = ("both", 1, (), (0, 1))
        self.like(one, other, ("alike", rows + (nought,) * 599), "alike")
        self.like(one, other, ("alike", rows + (nought,) * 600), ("shape", -1))
        self.like(one, other, ("alike", (None,) * 601), ("shape", -1))
        self.like(one, other, ("alike", (None,) * 600), ("row", 0))
        self.like(one, other, ("alike", (nought,) * 599 + (None,)), ("row", 599))
        many = (("table", (2,), (), (1, 600)),) * 600
        self.like(one, other, ("alike", many), "alike")
        self.like(one, other, ("alike", many[1:]), ("sum", -1))

    def test_values_otherwise(self):
        for one, other, values in UNLIKE:
            for wrong in (-1, 10, True, False, None, "1", (1,), [1], 10 ** 39):
                for k in range(len(values) + 1):
                    self.like(one, other, ("unlike", values[:k] + (wrong,) + values[k + 1:]), ("shape", -1))
            self.like(one, other, ("unlike", list(values)), ("shape", -1))
            self.like(one, other, ("unlike", (1,) * 6), ("shape", -1))
            self.like(one, other, ("unlike", (0,) * 6), ("shape", -1))
            self.like(one, other, ("alike", ()), ("sum", -1))
            if values:
                self.like(one, other, ("alike", values), ("row", 0))

    def test_values_that_are_the_same(self):
        self.like(UNLIKE[0][0], UNLIKE[0][1], ("unlike", (1,)), ("values", -1))
        self.like(UNLIKE[0][0], UNLIKE[0][1], ("unlike", (0, 1, 0, 1, 1)), ("values", -1))
        self.like(UNLIKE[0][0], UNLIKE[0][1], ("unlike", ()), ("values", -1))
        self.like(UNLIKE[3][0], UNLIKE[3][1], ("unlike", (9, 9)), ("values", -1))
        for one, other, rows in ALIKE:
            for values in ((), (0,), (1, 2, 3), (9, 8, 7, 6, 5)):
                self.like(one, other, ("unlike", values), ("values", -1))

    def test_all_values_of_two_letters(self):
        one, other = ("powers", (((2,), ONE), ((3,), (-1, 3)))), ("choices", (((1,), ONE),))
        for values in itertools.product(range(10), repeat=2):
            self.like(one, other, ("unlike", values), answer_by_hand(one, other, ("unlike", values)))

    def test_never_both(self):
        some = (((), (1, 2)), ((2,), ONE), ((2, 1), (-3, 1)))
        for way in WAYS:
            one, other = ("powers", led("shapes", "powers", some)), (way, led("shapes", way, some))
            for values in itertools.product((0, 1, 5), repeat=3):
                self.like(one, other, ("unlike", values), ("values", -1))


if __name__ == "__main__":
    unittest.main()
