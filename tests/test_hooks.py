import functools
import unittest
from math import comb

from plain_things import same
from swapsums.hooks import hooks, rising_many, tables_many
from swapsums.shapes import columns, shapes_of
from swapsums.tables import tables_of
from test_products import determinant
from test_tables import tables_by_hand


def hook_by_hand(shape, row, column):
    boxes = [(i, j) for i, part in enumerate(shape) for j in range(part)]
    return 1 + sum((i == row and j > column) or (j == column and i > row) for i, j in boxes)


def tables_many_by_hand(shape, n):
    """By the rows' orders and how many choices with repeats there are."""
    def repeats(k):
        return 0 if k < 0 else 1 if k == 0 else comb(n + k - 1, k) if n else 0
    return determinant([[repeats(part - i + j) for j in range(len(shape))] for i, part in enumerate(shape)])


@functools.lru_cache(None)
def rising_by_hand(shape):
    """The greatest letter stands at the end of a row; what is left has as many without it."""
    if not shape:
        return 1
    many = 0
    for row, part in enumerate(shape):
        if row == len(shape) - 1 or shape[row + 1] < part:
            many += rising_by_hand(tuple(k for k in shape[:row] + (part - 1,) + shape[row + 1:] if k))
    return many


class Hooks(unittest.TestCase):
    def test_each_box(self):
        for size in range(9):
            for shape in shapes_of(size):
                wanted = tuple(tuple(hook_by_hand(shape, row, column) for column in range(part))
                               for row, part in enumerate(shape))
                same(self, hooks(shape), wanted)

    def test_plain_ones(self):
        same(self, hooks(()), ())
        same(self, hooks((1,)), ((1,),))
        same(self, hooks((8,)), ((8, 7, 6, 5, 4, 3, 2, 1),))
        same(self, hooks((1, 1, 1)), ((3,), (2,), (1,)))
        same(self, hooks((4, 2, 1)), ((6, 4, 2, 1), (3, 1), (1,)))
        same(self, hooks((3, 3)), ((4, 3, 2), (3, 2, 1)))


class TablesMany(unittest.TestCase):
    def test_against_the_tables(self):
        for size in range(6):
            for shape in shapes_of(size):
                for n in range(5):
                    same(self, tables_many(shape, n), len(tables_by_hand((shape, ()), n)))
        for shape in shapes_of(7):
            for n in range(4):
                same(self, tables_many(shape, n), len(tables_of((shape, ()), n)))

    def test_to_sixty_letters(self):
        for size in range(9):
            for shape in shapes_of(size):
                for n in (0, 1, 2, 7, 8, 9, 59, 60):
                    same(self, tables_many(shape, n), tables_many_by_hand(shape, n))

    def test_fewer_letters_than_rows_and_as_many(self):
        for size in range(1, 9):
            for shape in shapes_of(size):
                for n in range(len(shape)):
                    same(self, tables_many(shape, n), 0)
                self.assertGreater(tables_many(shape, len(shape)), 0)

    def test_plain_ones(self):
        for n in (0, 1, 5, 60):
            same(self, tables_many((), n), 1)
            same(self, tables_many((1,), n), n)
        same(self, tables_many((1, 1, 1), 3), 1)
        same(self, tables_many((2, 1), 3), 8)
        same(self, tables_many((4, 2), 6), 1134)
        same(self, tables_many((8,), 60), comb(67, 8))
        same(self, tables_many((1,) * 8, 60), comb(60, 8))


class RisingMany(unittest.TestCase):
    def test_against_a_count(self):
        for size in range(9):
            for shape in shapes_of(size):
                same(self, rising_many(shape), rising_by_hand(shape))
                same(self, rising_many(shape), rising_many(columns(shape)))

    def test_against_the_tables(self):
        for size in range(6):
            for shape in shapes_of(size):
                tables = tables_by_hand((shape, ()), size)
                once = [table for table in tables if len({letter for row in table for letter in row}) == size]
                same(self, rising_many(shape), len(once))

    def test_plain_ones(self):
        same(self, rising_many(()), 1)
        same(self, rising_many((1,)), 1)
        same(self, rising_many((8,)), 1)
        same(self, rising_many((2, 1)), 2)
        same(self, rising_many((3, 2, 1)), 16)
        same(self, rising_many((4, 4)), 14)


if __name__ == "__main__":
    unittest.main()
