import copy
import itertools
import unittest

from plain_things import ODD_THINGS, look, nested, same
from swapsums.errors import TooMany
from swapsums.shapes import is_within, shapes_of
from swapsums.tables import content_of, is_skew, is_table, tables_of


def skews_to(size):
    shapes = [shape for n in range(size + 1) for shape in shapes_of(n)]
    return [(outer, inner) for outer in shapes for inner in shapes if is_within(inner, outer)]


def boxes_of(skew):
    outer, inner = skew
    starts = list(inner) + [0] * (len(outer) - len(inner))
    return [(row, column) for row, end in enumerate(outer) for column in range(starts[row], end)]


def tables_by_hand(skew, n):
    """All TABLES, sought among all fillings of the boxes."""
    told = []
    boxes = boxes_of(skew)
    for letters in itertools.product(range(n), repeat=len(boxes)):
        at = dict(zip(boxes, letters))
        if all(at.get((row, column - 1), -1) <= letter and at.get((row - 1, column), -1) < letter
               for (row, column), letter in at.items()):
            told.append(tuple(tuple(at[box] for box in boxes if box[0] == row) for row in range(len(skew[0]))))
    return sorted(told)


class Skews(unittest.TestCase):
    def test_is_skew(self):
        right = skews_to(4) + [((10 ** 39,), (10 ** 39,)), ((5, 5, 5), (5, 3))]
        wrong = [((1,), (2,)), ((), (1,)), ((2,), (1, 1)), ((3, 1), (2, 2)), ((1, 2), ()), ((2, 1), (0,)), ((0,), ()),
                 ((2, 1), (1,), ()), ((2, 1),), (), ((2, 1), [1]), [(2, 1), (1,)], ((2, 1), (True,)), ((True,), ()),
                 ((2, 1), None), (2, 1), nested(40), ((), (), ()), "ab", ((2, -1), ())]
        look(self, is_skew, right, wrong + ODD_THINGS)


class Tables(unittest.TestCase):
    def test_is_table_of_straight_ones(self):
        skew = ((3, 2), ())
        right = [((0, 0, 0), (1, 1)), ((0, 0, 2), (1, 2)), ((0, 1, 1), (1, 2)), ((1, 1, 2), (2, 2))]
        wrong = [((0, 0, 0), (0, 1)), ((1, 0, 0), (2, 2)), ((0, 0, 0), (2, 1)), ((0, 0, 3), (1, 1)), ((0, 0, 0), (1, 3)),
                 ((-1, 0, 0), (1, 1)), ((0, 0, 0), (1,)), ((0, 0), (1, 1)), ((0, 0, 0), (1, 1, 1)), ((0, 0, 0),), (),
                 ((0, 0, 0), (1, 1), ()), ((0, 0, 0, 0), (1, 1)), ((0, 0, 0), (1, True)), ((False, 0, 0), (1, 1)),
                 ([0, 0, 0], (1, 1)), [(0, 0, 0), (1, 1)], (0, 0, 0, 1, 1), nested(40), ((0, 0, 0), 1), ((0, 1, 2), (1, 1))]
        look(self, lambda thing: is_table(skew, 3, thing), right, wrong + ODD_THINGS)

    def test_is_table_of_skewed_ones(self):
        skew = ((3, 2, 1), (2, 1))
        right = [((0,), (0,), (0,)), ((2,), (0,), (1,)), ((0,), (1,), (2,))]
        wrong = [((0,), (0,), ()), ((3,), (0,), (0,)), ((0, 0), (0,), (0,)), ((), (0,), (0,))]
        look(self, lambda thing: is_table(skew, 3, thing), right, wrong + ODD_THINGS)
        skew = ((3, 3), (1,))
        right = [((0, 1), (0, 1, 2)), ((0, 0), (2, 2, 2))]
        wrong = [((0, 1), (0, 0, 2)), ((0, 1), (0, 1, 1)), ((0, 1), (2, 1, 2)), ((1, 0), (0, 2, 2))]
        look(self, lambda thing: is_table(skew, 3, thing), right, wrong + ODD_THINGS)

    def test_is_table_without_boxes(self):
        for n in range(7):
            self.assertIs(is_table(((), ()), n, ()), True)
            self.assertIs(is_table(((), ()), n, []), False)
            self.assertIs(is_table(((), ()), n, ((),)), False)
            self.assertIs(is_table(((2, 1), (2, 1)), n, ((), ())), True)
            self.assertIs(is_table(((2, 1), (2, 1)), n, ()), False)
            self.assertIs(is_table(((2, 1), (2,)), n, ((), (0,))), n > 0)
            self.assertIs(is_table(((2, 1), (2,)), n, ([], (0,))), False)

    def test_is_table_is_just_what_there_is(self):
        for skew in skews_to(4):
            rows = [outer - inner for outer, inner in itertools.zip_longest(*skew, fillvalue=0)]
            told = tables_by_hand(skew, 2)
            for letters in itertools.product(range(-1, 3), repeat=sum(rows)):
                left = list(letters)
                thing = tuple(tuple(left.pop(0) for box in range(many)) for many in rows)
                self.assertIs(is_table(skew, 2, thing), thing in told)

    def test_tables_of(self):
        for skew in skews_to(5):
            for n in range(4):
                same(self, tables_of(skew, n), tables_by_hand(skew, n))
        for skew in skews_to(6):
            if len(boxes_of(skew)) <= 4:
                same(self, tables_of(skew, 5), tables_by_hand(skew, 5))

    def test_plain_ones(self):
        same(self, tables_of(((2, 1), ()), 2), [((0, 0), (1,)), ((0, 1), (1,))])
        same(self, tables_of(((2, 1), (1,)), 2), [((0,), (0,)), ((0,), (1,)), ((1,), (0,)), ((1,), (1,))])
        same(self, tables_of(((2, 2), (1, 1)), 2), [((0,), (1,))])
        for n in range(7):
            same(self, tables_of(((), ()), n), [()])
            same(self, tables_of(((3, 1), (3, 1)), n), [((), ())])
            same(self, tables_of(((1,) * (n + 1), ()), n), [])
            same(self, tables_of(((2,) * (n + 1) + (1,), (1,)), n), [])
            same(self, tables_of(((1,) * n, ()), n), [tuple((letter,) for letter in range(n))])
        same(self, tables_of(((1,), ()), 0), [])
        same(self, tables_of(((2, 2, 1, 1, 1, 1, 1), ()), 6), [])

    def refused(self, skew, n):
        with self.assertRaises(TooMany) as told:
            tables_of(skew, n)
        same(self, told.exception.word, "tables")

    def test_a_thousand_and_more(self):
        # Rows that aren't tied multiply: 10 * 10 * 10.
        skew = ((6, 4, 2), (4, 2))
        told = tables_of(skew, 4)
        self.assertEqual(len(told), 1000)
        self.assertEqual(told, sorted(set(told)))
        self.assertTrue(all(is_table(skew, 4, table) for table in told))
        # A row of ten boxes, or of four, has just one TABLE too many.
        self.refused(((10,), ()), 5)
        self.refused(((4,), ()), 11)
        self.assertEqual(len(tables_of(((10,), ()), 4)), 286)
        self.refused(((4, 2), ()), 6)
        self.assertEqual(len(tables_of(((4, 2), ()), 5)), 420)
        self.refused(((4, 3, 2, 1), ()), 6)
        self.refused(((4, 3, 2, 1), (3, 2, 1)), 6)
        self.assertEqual(len(tables_of(((4, 3, 2, 1), (3, 2, 1)), 5)), 625)

    def test_what_is_told_is_the_askers_own(self):
        for skew, n in ((((2, 1), ()), 2), (((), ()), 3), (((1,), ()), 0)):
            kept = copy.deepcopy(tables_of(skew, n))
            tables_of(skew, n).append("mine")
            tables_of(skew, n).clear()
            same(self, tables_of(skew, n), kept)

    def test_content_of(self):
        same(self, content_of(0, ()), ())
        same(self, content_of(3, ()), (0, 0, 0))
        same(self, content_of(2, ((), ())), (0, 0))
        same(self, content_of(3, ((0, 0, 2), (2,))), (2, 0, 2))
        same(self, content_of(4, ((0, 0, 2), (2,))), (2, 0, 2, 0))
        for skew in skews_to(4):
            for table in tables_of(skew, 3):
                letters = [letter for row in table for letter in row]
                same(self, content_of(3, table), tuple(letters.count(letter) for letter in range(3)))


if __name__ == "__main__":
    unittest.main()
