import itertools
import unittest
from math import factorial

from plain_things import ODD_THINGS, look, nested, same
from swapsums.shapes import columns, is_shape, is_within, often, shapes_of, size_of, weight


def shapes_by_hand(n):
    """All shapes of a size, sought among all tuples of numbers."""
    told = set()
    for many in range(n + 1):
        for parts in itertools.combinations_with_replacement(range(n, 0, -1), many):
            if sum(parts) == n:
                told.add(parts)
    return sorted(told)


SOME = [shape for n in range(8) for shape in shapes_by_hand(n)] + [(30,) * 12, (30, 29, 7, 7, 7, 1), (30,), (1,) * 12]


class Shapes(unittest.TestCase):
    def test_is_shape(self):
        right = SOME + [(10 ** 39, 1), (5,) * 100]
        wrong = [(0,), (1, 0), (1, 2), (2, 1, 2), (-1,), (1, -1), (True,), (2, True), (True, True), [2, 1], [], (2, "1"),
                 (2, None), (2, (1,)), ((2, 1),), ((),), "21", nested(40), tuple(range(30000)), (3, 2, 2, 1, 0)]
        look(self, is_shape, right, wrong + ODD_THINGS)

    def test_long_ones_are_looked_at_to_the_end(self):
        self.assertIs(is_shape((1,) * 29999), True)
        self.assertIs(is_shape((1,) * 29998 + (2,)), False)
        self.assertIs(is_shape((1,) * 29998 + (True,)), False)

    def test_size_of(self):
        for shape in SOME:
            same(self, size_of(shape), sum(shape))
        same(self, size_of(()), 0)
        same(self, size_of((4, 2, 2)), 8)

    def test_columns(self):
        same(self, columns(()), ())
        same(self, columns((4,)), (1, 1, 1, 1))
        same(self, columns((1, 1, 1)), (3,))
        same(self, columns((4, 2, 1)), (3, 2, 1, 1))
        same(self, columns((2, 2)), (2, 2))
        for shape in SOME:
            boxes = [(row, column) for row, part in enumerate(shape) for column in range(part)]
            told = columns(shape)
            self.assertEqual(sorted((row, column) for column, row in boxes),
                             [(row, column) for row, part in enumerate(told) for column in range(part)])
            same(self, columns(told), shape)

    def test_often(self):
        same(self, often(()), ())
        same(self, often((3,)), ((3, 1),))
        same(self, often((5, 2, 2, 1, 1, 1)), ((1, 3), (2, 2), (5, 1)))
        same(self, often((30,) * 12), ((30, 12),))
        same(self, often((30, 29, 7, 7, 7, 1)), ((1, 1), (7, 3), (29, 1), (30, 1)))
        for shape in SOME:
            same(self, tuple(part for part, many in often(shape)[::-1] for k in range(many)), shape)
            self.assertEqual(len(often(shape)), len(set(shape)))

    def test_weight(self):
        same(self, weight(()), 1)
        same(self, weight((3,)), 3)
        same(self, weight((1, 1, 1)), 6)
        same(self, weight((2, 2, 1)), 8)
        same(self, weight((30,) * 12), 30 ** 12 * factorial(12))
        for shape in SOME:
            wanted = 1
            for part in set(shape):
                wanted *= part ** shape.count(part) * factorial(shape.count(part))
            same(self, weight(shape), wanted)

    def test_weights_are_those_of_rounds(self):
        for n in range(6):
            met = {}
            for order in itertools.permutations(range(n)):
                left, lengths = set(range(n)), []
                while left:
                    at, long = min(left), 0
                    while at in left:
                        left.remove(at)
                        at, long = order[at], long + 1
                    lengths.append(long)
                shape = tuple(sorted(lengths, reverse=True))
                met[shape] = met.get(shape, 0) + 1
            for shape in shapes_of(n):
                self.assertEqual(met[shape] * weight(shape), factorial(n))

    def test_shapes_of(self):
        same(self, shapes_of(0), [()])
        same(self, shapes_of(1), [(1,)])
        same(self, shapes_of(4), [(1, 1, 1, 1), (2, 1, 1), (2, 2), (3, 1), (4,)])
        for n in range(9):
            same(self, shapes_of(n), shapes_by_hand(n))
        for n, many in enumerate((1, 1, 2, 3, 5, 7, 11, 15, 22, 30, 42, 56, 77)):
            told = shapes_of(n)
            self.assertEqual(len(told), many)
            self.assertEqual(told, sorted(set(told)))
            self.assertTrue(all(is_shape(shape) and sum(shape) == n for shape in told))

    def test_what_is_told_is_the_askers_own(self):
        shapes_of(4).clear()
        shapes_of(0).append((1,))
        same(self, shapes_of(4), [(1, 1, 1, 1), (2, 1, 1), (2, 2), (3, 1), (4,)])
        same(self, shapes_of(0), [()])

    def test_is_within(self):
        for inner in SOME[:50]:
            for outer in SOME[:50]:
                boxes = {(row, column) for row, part in enumerate(outer) for column in range(part)}
                wanted = all((row, column) in boxes for row, part in enumerate(inner) for column in range(part))
                self.assertIs(is_within(inner, outer), wanted)
        self.assertIs(is_within((), ()), True)
        self.assertIs(is_within((1,), ()), False)
        self.assertIs(is_within((2, 2), (3, 1, 1)), False)
        self.assertIs(is_within((1, 1, 1), (3, 3)), False)
        self.assertIs(is_within((1,) * 14000, (10 ** 39,) * 14000), True)
        self.assertIs(is_within((2,) * 14000, (2,) * 13999 + (1,)), False)


if __name__ == "__main__":
    unittest.main()
