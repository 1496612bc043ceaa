import itertools
import unittest
from math import factorial

from plain_things import same
from swapsums.shapes import columns, is_within, shapes_of
from swapsums.strips import column_strips, counted, row_strips
from swapsums.tables import content_of, tables_of
from test_tables import boxes_of, skews_to, tables_by_hand


def strips_by_hand(shape, k, side):
    """side 1: no two new boxes in one column; side 0: in one row."""
    told = []
    for outer in shapes_of(sum(shape) + k):
        if is_within(shape, outer):
            lines = [box[side] for box in boxes_of((outer, shape))]
            if len(set(lines)) == len(lines):
                told.append(outer)
    return told


class Strips(unittest.TestCase):
    def test_strips(self):
        for size in range(8):
            for shape in shapes_of(size):
                for k in range(5):
                    same(self, row_strips(shape, k), strips_by_hand(shape, k, 1))
                    same(self, column_strips(shape, k), strips_by_hand(shape, k, 0))
        for shape in shapes_of(9):
            same(self, row_strips(shape, 5), strips_by_hand(shape, 5, 1))
            same(self, column_strips(shape, 5), strips_by_hand(shape, 5, 0))

    def test_plain_ones(self):
        same(self, row_strips((), 0), [()])
        same(self, column_strips((), 0), [()])
        same(self, row_strips((), 3), [(3,)])
        same(self, column_strips((), 3), [(1, 1, 1)])
        same(self, row_strips((2, 1), 0), [(2, 1)])
        same(self, column_strips((2, 1), 0), [(2, 1)])
        same(self, row_strips((2, 1), 2), [(2, 2, 1), (3, 1, 1), (3, 2), (4, 1)])
        same(self, column_strips((2, 1), 2), [(2, 1, 1, 1), (2, 2, 1), (3, 1, 1), (3, 2)])

    def test_what_is_told_is_the_askers_own(self):
        for ask in (row_strips, column_strips):
            kept = list(ask((2, 1), 2))
            ask((2, 1), 2).clear()
            ask((), 0).append(1)
            same(self, ask((2, 1), 2), kept)
            same(self, ask((), 0), [()])


class Counted(unittest.TestCase):
    def test_just_those_that_there_are(self):
        for skew in skews_to(5):
            for n in range(4):
                met = {}
                for table in tables_by_hand(skew, n):
                    content = content_of(n, table)
                    met[content] = met.get(content, 0) + 1
                many = len(boxes_of(skew))
                for content in itertools.product(range(many + 2), repeat=n):
                    same(self, counted(skew, content), met.get(content, 0))

    def test_of_six_letters(self):
        for skew in (((4, 3, 2), (3, 2)), ((3, 2, 1), ()), ((4, 4), (3,)), ((3, 3, 3, 1), (3, 2, 1))):
            met = {}
            for table in tables_of(skew, 6) if skew != ((4, 3, 2), (3, 2)) else tables_by_hand(skew, 6):
                content = content_of(6, table)
                met[content] = met.get(content, 0) + 1
            many = len(boxes_of(skew))
            for content in itertools.product(range(3), repeat=6):
                if sum(content) == many:
                    same(self, counted(skew, content), met.get(content, 0))

    def test_in_whatever_order(self):
        for skew in (((4, 3, 2, 1), ()), ((5, 3, 2), (2, 1)), ((4, 4, 2), (3,)), ((2, 2, 2, 2, 2), (1, 1))):
            many = len(boxes_of(skew))
            for parts in shapes_of(many):
                content = parts + (0,) * (5 - len(parts))
                if len(content) == 5:
                    wanted = counted(skew, content)
                    for order in set(itertools.permutations(content)):
                        same(self, counted(skew, order), wanted)

    def test_a_letter_more(self):
        skew = ((4, 3, 2), (2, 1))
        between = [shape for n in range(10) for shape in shapes_of(n)
                   if is_within(skew[1], shape) and is_within(shape, skew[0])]
        for content in itertools.product(range(4), repeat=3):
            if sum(content) == 6:
                wanted = sum(counted((shape, skew[1]), content[:-1]) for shape in between
                             if skew[0] in row_strips(shape, content[-1]))
                same(self, counted(skew, content), wanted)

    def test_where_the_sum_is_another_one(self):
        for content in ((), (1,), (2, 2), (0, 0, 0), (1, 1, 1, 1), (10 ** 30,), (10 ** 30, 0, 3)):
            same(self, counted(((2, 1), ()), content), 0)
        same(self, counted(((), ()), (1,)), 0)
        same(self, counted(((3, 1), (3, 1)), (0, 1)), 0)

    def test_plain_ones(self):
        same(self, counted(((), ()), ()), 1)
        same(self, counted(((), ()), (0, 0)), 1)
        same(self, counted(((3, 1), (3, 1)), ()), 1)
        same(self, counted(((3, 1), (3, 1)), (0, 0, 0)), 1)
        same(self, counted(((2, 1), ()), (1, 1, 1)), 2)
        same(self, counted(((2, 1), ()), (2, 1)), 1)
        same(self, counted(((2, 1), ()), (3,)), 0)
        same(self, counted(((1, 1), ()), (0, 1, 0, 1, 0, 0)), 1)
        same(self, counted(((2, 1), ()), (2, 0, 0, 0, 0, 1)), 1)

    def test_many_thousands(self):
        # Boxes that aren't tied: as many as orders of the letters.
        for n in (4, 5, 6, 8):
            skew = (tuple(range(n, 0, -1)), tuple(range(n - 1, 0, -1)))
            same(self, counted(skew, (1,) * n), factorial(n))
        skew = ((10, 8, 6, 4, 2), (8, 6, 4, 2))
        same(self, counted(skew, (2, 2, 2, 2, 2)), 6210)
        skew = (tuple(range(10, 0, -1)), tuple(range(9, 0, -1)))
        same(self, counted(skew, (2, 2, 2, 2, 1, 1)), factorial(10) // 16)
        same(self, counted(((4, 3, 2, 1), ()), (1,) * 10), 768)

    def test_columns_count_as_rows_do_where_each_letter_comes_once(self):
        for shape in shapes_of(6):
            same(self, counted((shape, ()), (1,) * 6), counted((columns(shape), ()), (1,) * 6))


if __name__ == "__main__":
    unittest.main()
