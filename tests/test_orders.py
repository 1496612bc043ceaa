import unittest

from plain_things import same
from swapsums.orders import beneath, is_above, joining, meeting
from swapsums.shapes import shapes_of


def above_by_hand(one, other):
    if sum(one) != sum(other):
        return False
    return all(sum(one[:k]) >= sum(other[:k]) for k in range(sum(one) + 1))


def straight_by_moves(shape):
    """One box moved down to the next row, or to the next column: each step straight beneath is so."""
    told = set()
    for start in range(len(shape)):
        for end in range(start + 1, len(shape) + 1):
            parts = list(shape) + [0]
            parts[start] -= 1
            parts[end] += 1
            if parts == sorted(parts, reverse=True) and (end == start + 1 or parts[start] == parts[end]):
                told.add(tuple(part for part in parts if part))
    return sorted(told)


class Orders(unittest.TestCase):
    def test_is_above(self):
        for n in range(9):
            for one in shapes_of(n):
                for other in shapes_of(n):
                    self.assertIs(is_above(one, other), above_by_hand(one, other), (one, other))
        self.assertIs(is_above((), ()), True)
        self.assertIs(is_above((3, 1, 1, 1), (2, 2, 2)), False)
        self.assertIs(is_above((2, 2, 2), (3, 1, 1, 1)), False)
        self.assertIs(is_above((12,), (1,) * 12), True)
        self.assertIs(is_above((1,) * 12, (12,)), False)

    def test_of_unlike_sizes_neither_is_above(self):
        for one, other in (((), (1,)), ((3,), (1, 1)), ((3, 1), (3,)), ((5, 5), (2, 2, 1))):
            self.assertIs(is_above(one, other), False)
            self.assertIs(is_above(other, one), False)

    def test_meeting_and_joining(self):
        for n in range(8):
            shapes = shapes_of(n)
            for one in shapes:
                for other in shapes:
                    low = [s for s in shapes if above_by_hand(one, s) and above_by_hand(other, s)]
                    high = [s for s in shapes if above_by_hand(s, one) and above_by_hand(s, other)]
                    (met,) = [s for s in low if all(above_by_hand(s, third) for third in low)]
                    (joined,) = [s for s in high if all(above_by_hand(third, s) for third in high)]
                    same(self, meeting(one, other), met)
                    same(self, joining(one, other), joined)

    def test_meeting_and_joining_of_size_12(self):
        shapes = shapes_of(12)
        for one in shapes[::4]:
            for other in shapes[::3]:
                met, joined = meeting(one, other), joining(one, other)
                self.assertIn(met, shapes)
                self.assertIn(joined, shapes)
                for third in shapes:
                    self.assertEqual(above_by_hand(met, third),
                                     above_by_hand(one, third) and above_by_hand(other, third))
                    self.assertEqual(above_by_hand(third, joined),
                                     above_by_hand(third, one) and above_by_hand(third, other))

    def test_plain_ones(self):
        same(self, meeting((), ()), ())
        same(self, joining((), ()), ())
        same(self, meeting((4,), (4,)), (4,))
        same(self, meeting((3, 1, 1, 1), (2, 2, 2)), (2, 2, 1, 1))
        same(self, joining((3, 1, 1, 1), (2, 2, 2)), (3, 2, 1))
        same(self, joining((4, 1, 1), (3, 3)), (4, 2))

    def test_beneath(self):
        same(self, beneath(()), [])
        same(self, beneath((1,)), [])
        same(self, beneath((1, 1, 1)), [])
        same(self, beneath((2,)), [(1, 1)])
        same(self, beneath((12,)), [(11, 1)])
        same(self, beneath((4, 2)), [(3, 3), (4, 1, 1)])
        same(self, beneath((3, 2, 1)), [(2, 2, 2), (3, 1, 1, 1)])
        for n in (1, 2, 3, 4, 5, 6, 7, 8, 9, 12):
            for shape in shapes_of(n):
                same(self, beneath(shape), straight_by_moves(shape))

    def test_what_is_told_is_the_askers_own(self):
        beneath((4, 2)).clear()
        beneath((1,)).append(1)
        same(self, beneath((4, 2)), [(3, 3), (4, 1, 1)])
        same(self, beneath((1,)), [])


if __name__ == "__main__":
    unittest.main()
