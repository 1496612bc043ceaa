import itertools
import unittest
from fractions import Fraction

from plain_things import ODD_THINGS, nested, same, spoilt
from swapsums.formal import formal_meant, is_formal
from swapsums.rules import is_rule, rule_sum
from swapsums.shapes import shapes_of
from test_formal import as_formal, formal_value
from test_meaning import POINTS

ONE = (1, 1)
NUMBER_RULES = ("both", "power-repeat", "power-choice")
SHAPES = [shape for size in range(9) for shape in shapes_of(size)]
RULES = [(word, n) for word in NUMBER_RULES for n in range(1, 9)]
RULES += [("table", shape) for shape in SHAPES if 1 <= len(shape) <= 5]
RULES += [("shape", (k, shape)) for k in range(1, 9) for shape in SHAPES]


def numbered(*pairs):
    """FACTORS of (word, k), of k 0 none."""
    return tuple(sorted(pair for pair in pairs if pair[1]))


def rule_by_hand(word, thing):
    """A dict of Fractions, as the document tells each rule."""
    told = {}

    def add(number, factors):
        told[factors] = told.get(factors, Fraction(0)) + number

    if word == "both":
        for k in range(thing + 1):
            add((-1) ** k, numbered(("choice", k), ("repeat", thing - k)))
    elif word == "power-repeat":
        add(thing, (("repeat", thing),))
        for k in range(1, thing + 1):
            add(-1, numbered(("power", k), ("repeat", thing - k)))
    elif word == "power-choice":
        add(thing, (("choice", thing),))
        for k in range(1, thing + 1):
            add(-((-1) ** (k - 1)), numbered(("power", k), ("choice", thing - k)))
    elif word == "table":
        add(1, (("table", thing),))
        for order in itertools.permutations(range(len(thing))):
            sign = (-1) ** sum(order[i] > order[j] for i, j in itertools.combinations(range(len(thing)), 2))
            lengths = [thing[i] - i + order[i] for i in range(len(thing))]
            if min(lengths) >= 0:
                add(-sign, numbered(*[("repeat", length) for length in lengths]))
    else:
        k, shape = thing
        add(1, tuple(sorted([("power", k)] + ([("shape", shape)] if shape else []))))
        for r in set(shape) | {0}:
            grown = list(shape)
            if r:
                grown.remove(r)
            grown.append(r + k)
            add(-grown.count(r + k), (("shape", tuple(sorted(grown, reverse=True))),))
    return told


class IsRule(unittest.TestCase):
    def test_right_ones(self):
        for word, thing in RULES:
            self.assertIs(is_rule(word, thing), True)

    def test_one_thing_otherwise(self):
        for word, thing in RULES[:60] + RULES[-40:]:
            for other in spoilt(word):
                self.assertIs(is_rule(other, thing), False)
            for other in spoilt(thing):
                self.assertIs(is_rule(word, other), False, (word, other))

    def test_bounds_of_numbers(self):
        for word in NUMBER_RULES:
            for n in range(-3, 15):
                self.assertIs(is_rule(word, n), 1 <= n <= 8)
            for thing in (True, False, 10 ** 39, "1", (1,), [1], None, (1, ()), ()):
                self.assertIs(is_rule(word, thing), False)

    def test_bounds_of_tables(self):
        for shape in SHAPES + shapes_of(9):
            self.assertIs(is_rule("table", shape), sum(shape) <= 8 and 1 <= len(shape) <= 5)
        for thing in ((), (9,), (8, 1), (4, 1, 1, 1, 1, 1), (3, 1, 1, 1, 1, 1), (1,) * 6, (1, 2), (True,), (2, True), [2, 1], (0,),
                      (-1,), (2, 0), 1, 8, "2.1", None, (1, (2, 1)), ((2, 1),), ("2",), (10 ** 39,)):
            self.assertIs(is_rule("table", thing), False)
        for thing in ((8,), (4, 1, 1, 1, 1), (1,) * 5, (2, 2, 2, 1, 1)):
            self.assertIs(is_rule("table", thing), True)

    def test_bounds_of_shapes(self):
        for k in range(-2, 12):
            for shape in ((), (1,), (8,), (1,) * 8, (9,), (1,) * 9, (5, 4)):
                self.assertIs(is_rule("shape", (k, shape)), 1 <= k <= 8 and sum(shape) <= 8)
        for thing in (1, (), (1,), (2, 1), ((), 1), (True, ()), (1, [1]), [1, ()], (1, (), ()), (1, (1, 2)), (1, (True,)), (1, None),
                      ("1", ()), (1, 1), (1, (0,)), ((1, ()),)):
            self.assertIs(is_rule("shape", thing), False)

    def test_other_kinds(self):
        words = ODD_THINGS + [nested(40), "", "tables", "shapes", "power", "repeat", "Both", "both ", "power-table",
                              "power repeat", ["both"], ("both",), 1, True]
        for word in words:
            for thing in (1, (1,), (1, ()), (2, 1)):
                self.assertIs(is_rule(word, thing), False)
        for word in NUMBER_RULES + ("table", "shape"):
            for thing in [nested(40), "", "a", None, True, False, [], [1], [[1]], ([1],), (None,), (1, (1,), 1)]:
                self.assertIs(is_rule(word, thing), False)


class RuleSum(unittest.TestCase):
    def test_each(self):
        for word, thing in RULES:
            told = rule_sum(word, thing)
            same(self, told, as_formal(rule_by_hand(word, thing)))
            self.assertIs(is_formal(told), True)

    def test_each_means_nought(self):
        for word, thing in RULES:
            if word != "shape" or thing[0] in (1, 2, 3, 8):
                for n in range(4):
                    same(self, formal_meant(n, rule_sum(word, thing)), ())

    def test_each_has_the_value_nought(self):
        for word, thing in RULES:
            if word in NUMBER_RULES or (word == "table" and sum(thing) <= 5) or (word == "shape" and sum(thing[1]) <= 3):
                for n in (3, 5):
                    self.assertEqual(formal_value(rule_sum(word, thing), POINTS[:n]), 0)

    def test_plain_ones(self):
        choice, power, repeat = (lambda k: ("choice", k)), (lambda k: ("power", k)), (lambda k: ("repeat", k))
        same(self, rule_sum("both", 1), (((choice(1),), (-1, 1)), ((repeat(1),), ONE)))
        same(self, rule_sum("both", 2), (((choice(1), repeat(1)), (-1, 1)), ((choice(2),), ONE), ((repeat(2),), ONE)))
        same(self, rule_sum("power-repeat", 1), (((power(1),), (-1, 1)), ((repeat(1),), ONE)))
        same(self, rule_sum("power-repeat", 2), (((power(1), repeat(1)), (-1, 1)), ((power(2),), (-1, 1)), ((repeat(2),), (2, 1))))
        same(self, rule_sum("power-choice", 2), (((choice(1), power(1)), (-1, 1)), ((choice(2),), (2, 1)), ((power(2),), ONE)))
        same(self, rule_sum("table", (3,)), (((repeat(3),), (-1, 1)), ((("table", (3,)),), ONE)))
        same(self, rule_sum("table", (1, 1)), (((repeat(1), repeat(1)), (-1, 1)), ((repeat(2),), ONE), ((("table", (1, 1)),), ONE)))
        same(self, rule_sum("shape", (2, ())), (((power(2),), ONE), ((("shape", (2,)),), (-1, 1))))
        same(self, rule_sum("shape", (1, (1,))),
             (((power(1), ("shape", (1,))), ONE), ((("shape", (1, 1)),), (-2, 1)), ((("shape", (2,)),), (-1, 1))))
        same(self, rule_sum("shape", (1, (2, 1))), (((power(1), ("shape", (2, 1))), ONE), ((("shape", (2, 1, 1)),), (-2, 1)),
                                                    ((("shape", (2, 2)),), (-2, 1)), ((("shape", (3, 1)),), (-1, 1))))


if __name__ == "__main__":
    unittest.main()
