import itertools
import unittest

from plain_things import same
from swapsums.latticed import is_latticed, latticed, word_of
from swapsums.shapes import is_within, shapes_of
from swapsums.tables import content_of, is_table, tables_of
from test_tables import boxes_of, skews_to, tables_by_hand


def latticed_by_hand(word):
    return all(word[:end].count(k + 1) <= word[:end].count(k) for end in range(len(word) + 1) for k in range(41))


def word_by_hand(table):
    told = []
    for row in table:
        for letter in reversed(row):
            told.append(letter)
    return tuple(told)


def arrangements(content):
    """All unlike orders of letters that come so often."""
    if not any(content):
        yield ()
    for letter, many in enumerate(content):
        if many:
            for rest in arrangements(content[:letter] + (many - 1,) + content[letter + 1:]):
                yield (letter,) + rest


def fillings_by_hand(skew, content):
    """Sought among all orders of the content in the boxes."""
    boxes = boxes_of(skew)
    told = []
    for letters in arrangements(content) if sum(content) == len(boxes) else ():
        at = dict(zip(boxes, letters))
        table = tuple(tuple(at[box] for box in boxes if box[0] == row) for row in range(len(skew[0])))
        if is_table(skew, len(content), table) and latticed_by_hand(word_by_hand(table)):
            told.append(table)
    return sorted(told)


class Words(unittest.TestCase):
    def test_is_latticed(self):
        for many in range(7):
            for word in itertools.product(range(4), repeat=many):
                self.assertIs(is_latticed(word), latticed_by_hand(word))

    def test_plain_ones(self):
        for word in ((), (0,), (0, 0), (0, 1), (0, 1, 2, 0, 1, 2), (0, 0, 1, 1, 2, 2), tuple(range(12)), (0,) * 12):
            self.assertIs(is_latticed(word), True)
        # Broken at the first, a middle, the last letter; letters that skip one.
        for word in ((1,), (1, 0), (1, 0, 0, 0), (40,), (0, 1, 1, 0, 0), (0, 0, 1, 2, 2, 0, 1), (0, 0, 1, 1, 1), (0, 2),
                     (0, 1, 3), (0, 0, 0, 2, 1), (0, 1, 0, 40), tuple(range(11)) + (10,), tuple(range(11)) + (12,)):
            self.assertIs(is_latticed(word), False)

    def test_word_of(self):
        same(self, word_of(()), ())
        same(self, word_of(((),)), ())
        same(self, word_of(((), (), ())), ())
        same(self, word_of(((0, 0, 1), (1, 2))), (1, 0, 0, 2, 1))
        same(self, word_of(((), (0, 3), (), (1,))), (3, 0, 1))
        for skew in skews_to(4):
            for table in tables_of(skew, 3):
                same(self, word_of(table), word_by_hand(table))


class Latticed(unittest.TestCase):
    def test_against_all_tables(self):
        for skew in skews_to(5):
            for n in range(4):
                met = {}
                for table in tables_by_hand(skew, n):
                    if latticed_by_hand(word_by_hand(table)):
                        met.setdefault(content_of(n, table), []).append(table)
                for content in itertools.product(range(len(boxes_of(skew)) + 1), repeat=n):
                    same(self, latticed(skew, content), met.get(content, []))

    def test_of_outer_size_nine(self):
        for outer in shapes_of(9):
            for inner in [shape for size in range(4, 9) for shape in shapes_of(size)][::3]:
                if is_within(inner, outer):
                    for content in shapes_of(9 - sum(inner)):
                        same(self, latticed((outer, inner), content), fillings_by_hand((outer, inner), content))

    def test_of_many_boxes(self):
        for skew in (((4, 3, 2), (2, 1)), ((3, 3, 2, 1), (2,)), ((5, 4), (3,)), ((2, 2, 2, 2, 1), (1, 1))):
            for content in shapes_of(len(boxes_of(skew))):
                same(self, latticed(skew, content), fillings_by_hand(skew, content))

    def test_straight_ones(self):
        # The word of a straight one begins with its first row's noughts: there is one, each row of its own letter.
        for size in range(10):
            for shape in shapes_of(size):
                for content in shapes_of(size):
                    wanted = [tuple((row,) * part for row, part in enumerate(shape))] if shape == content else []
                    if len(content) <= 8:
                        same(self, latticed((shape, ()), content), wanted)

    def test_two_of_them(self):
        same(self, latticed(((3, 2, 1), (2, 1)), (2, 1)), [((0,), (0,), (1,)), ((0,), (1,), (0,))])
        same(self, latticed(((3, 2, 1), (2, 1)), (1, 1, 1)), [((0,), (1,), (2,))])
        same(self, latticed(((3, 2, 1), (2, 1)), (3,)), [((0,), (0,), (0,))])
        same(self, latticed(((2, 2), (1,)), (2, 1)), [((0,), (0, 1))])

    def test_contents_that_no_word_has(self):
        skew = ((3, 2), (1,))
        for content in ((), (1,), (2, 1), (4, 1), (2, 1, 1, 1), (0, 0, 0), (8, 8), (8,) * 8):
            same(self, latticed(skew, content), [])
        for content in ((0, 4), (1, 3), (2, 0, 2), (1, 1, 2), (0, 0, 4), (0, 2, 2), (2, 1, 0, 1)):
            same(self, latticed(skew, content), [])
        same(self, latticed(((3, 1), (1,)), (1, 2)), [])

    def test_noughts_at_the_end(self):
        for skew in skews_to(5):
            for content in shapes_of(len(boxes_of(skew))):
                wanted = latticed(skew, content)
                for more in range(1, 4):
                    same(self, latticed(skew, content + (0,) * more), wanted)

    def test_without_boxes(self):
        for shape, wanted in (((), ()), ((1,), ((),)), ((3, 1), ((), ())), ((2, 2, 2, 2, 1), ((),) * 5)):
            for many in range(9):
                same(self, latticed((shape, shape), (0,) * many), [wanted])
            for content in ((1,), (0, 1), (1, 0, 0), (8,)):
                same(self, latticed((shape, shape), content), [])

    def test_empty_rows(self):
        same(self, latticed(((2, 2, 1), (2,)), (2, 1)), [((), (0, 0), (1,))])
        same(self, latticed(((3, 1, 1), (1, 1)), (2, 1)), [((0, 0), (), (1,))])
        same(self, latticed(((3, 1, 1), (1, 1)), (3,)), [((0, 0), (), (0,))])

    def test_each_content_in_the_stead_of_the_outer_ones_rest(self):
        # As many with the content as with the inner one: either way about.
        for outer in shapes_of(6):
            for size in range(7):
                for one in shapes_of(size):
                    for other in shapes_of(6 - size):
                        many = len(latticed((outer, one), other)) if is_within(one, outer) else 0
                        turned = len(latticed((outer, other), one)) if is_within(other, outer) else 0
                        self.assertEqual(many, turned)

    def test_what_is_told_is_the_askers_own(self):
        asked = [(((3, 2, 1), (2, 1)), (2, 1)), (((2,), (2,)), ()), (((2,), ()), (1,))]
        kept = [list(latticed(*words)) for words in asked]
        for words in asked:
            latticed(*words).append("mine")
            latticed(*words).clear()
        same(self, [latticed(*words) for words in asked[::-1]][::-1], kept)


if __name__ == "__main__":
    unittest.main()
