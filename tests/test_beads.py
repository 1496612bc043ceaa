import itertools
import unittest

from plain_things import same
from swapsums.beads import classes_many, classes_of, colours_many
from swapsums.letters import is_poly
from swapsums.meaning import meant
from swapsums.sums import number_at
from swapsums.turnings import around_turnings, turnings_sum
from swapsums.values import all_alike
from test_turnings import TURNED, rounds_by_hand


def contents(n, k):
    return [content for content in itertools.product(range(n + 1), repeat=k) if sum(content) == n]


def classes_by_hand(n, turnings, k):
    """All ROWs of k letters gone through: of each CLASS the least one, by contents."""
    met = set()
    told = {}
    for row in itertools.product(range(k), repeat=n):
        if row not in met:
            # Rows come rising, so the first one met of a CLASS is the least.
            met |= {tuple(row[place] for place in order) for order in turnings}
            told.setdefault(tuple(row.count(letter) for letter in range(k)), []).append(row)
    return told


class Classes(unittest.TestCase):
    def test_each_content(self):
        for n, turnings in TURNED:
            for k in (1, 2, 3):
                wanted = classes_by_hand(n, turnings, k)
                for content in contents(n, k):
                    told = classes_of(n, turnings, content)
                    same(self, told, wanted[content])
                    same(self, classes_many(n, turnings, content), len(wanted[content]))

    def test_plain_ones(self):
        around = around_turnings(4)
        same(self, classes_of(4, around, (2, 2)), [(0, 0, 1, 1), (0, 1, 0, 1)])
        same(self, classes_of(4, around, (2, 0, 2)), [(0, 0, 2, 2), (0, 2, 0, 2)])
        same(self, classes_of(4, around, (4,)), [(0, 0, 0, 0)])
        same(self, classes_of(4, around, (0, 4)), [(1, 1, 1, 1)])
        same(self, classes_of(4, around, (0, 0, 4)), [(2, 2, 2, 2)])
        same(self, classes_of(3, around_turnings(3), (1, 1, 1)), [(0, 1, 2), (0, 2, 1)])
        same(self, classes_of(1, ((0,),), (0, 1, 0)), [(1,)])
        same(self, classes_of(2, ((0, 1),), (1, 1)), [(0, 1), (1, 0)])
        same(self, classes_many(6, around_turnings(6), (2, 2, 2)), 16)

    def test_they_are_the_numbers_of_the_meaning(self):
        for n, turnings in TURNED:
            for k in (1, 2, 3):
                poly = meant("powers", turnings_sum(n, turnings), k)
                self.assertIs(is_poly(k, poly), True)
                for content in contents(n, k):
                    same(self, (classes_many(n, turnings, content), 1), number_at(poly, content))

    def test_what_is_told_is_the_askers_own(self):
        for n, turnings in TURNED[:8]:
            content = (n - n // 2, n // 2)
            kept = list(classes_of(n, turnings, content))
            classes_of(n, turnings, content).append("mine")
            classes_of(n, turnings, content).clear()
            same(self, classes_of(n, turnings, content), kept)
            same(self, classes_many(n, turnings, content), len(kept))


class Colours(unittest.TestCase):
    def test_against_all_rows(self):
        for n, turnings in TURNED:
            for k in range(4):
                wanted = classes_by_hand(n, turnings, k)
                same(self, colours_many(n, turnings, k), sum(len(rows) for rows in wanted.values()))

    def test_against_rounds(self):
        for n, turnings in TURNED:
            for k in (0, 1, 2, 7, 59, 60):
                many = sum(k ** len(rounds_by_hand(order)) for order in turnings)
                self.assertEqual(many % len(turnings), 0)
                same(self, colours_many(n, turnings, k), many // len(turnings))

    def test_against_all_alike_and_all_contents(self):
        for n, turnings in TURNED:
            for k in (0, 1, 2, 3, 60):
                same(self, (colours_many(n, turnings, k), 1), all_alike(("powers", turnings_sum(n, turnings)), k, (1, 1)))
            for k in (1, 2, 3):
                together = sum(classes_many(n, turnings, content) for content in contents(n, k))
                same(self, colours_many(n, turnings, k), together)

    def test_edges(self):
        for n, turnings in TURNED:
            same(self, colours_many(n, turnings, 0), 0)
            same(self, colours_many(n, turnings, 1), 1)
            same(self, colours_many(n, (tuple(range(n)),), 60), 60 ** n)
        same(self, colours_many(4, around_turnings(4), 2), 6)
        same(self, colours_many(6, around_turnings(6), 60), (60 ** 6 + 60 ** 3 + 2 * 60 ** 2 + 2 * 60) // 6)


if __name__ == "__main__":
    unittest.main()
