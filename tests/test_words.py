import itertools
import unittest

from plain_things import ODD_THINGS, look, nested, same
from swapsums.words import down_at, head_of, is_word, swapped_at, unpaired_at, up_at

WORDS = [word for many in range(6) for word in itertools.product(range(3), repeat=many)]
LONG_WORDS = [(0, 1, 2, 3, 4, 3, 2, 1), (4, 3, 2, 1, 0, 0, 1, 2), (1, 1, 0, 0, 1, 0, 0, 1), (2, 2, 2, 1, 1, 1, 0, 0),
              (4, 4, 4, 4, 3, 3, 3, 3), (3, 3, 4, 4, 4, 3, 4, 3), (0, 0, 0, 0, 0, 0, 0, 0), (1, 0, 2, 1, 3, 2, 4, 3)]


def unpaired_by_hand(i, word):
    """Pairs side by side, once all other letters and pairs are left out, are left out again and again."""
    left = [place for place, letter in enumerate(word) if letter in (i, i + 1)]
    while True:
        for at in range(len(left) - 1):
            if word[left[at]] == i and word[left[at + 1]] == i + 1:
                del left[at:at + 2]
                break
        else:
            return tuple(left)


def with_letters(word, letters):
    """The word with these letters at these places."""
    return tuple(letters.get(place, letter) for place, letter in enumerate(word))


def up_by_hand(i, word):
    places = [place for place in unpaired_by_hand(i, word) if word[place] == i + 1]
    return with_letters(word, {max(places): i}) if places else None


def down_by_hand(i, word):
    places = [place for place in unpaired_by_hand(i, word) if word[place] == i]
    return with_letters(word, {min(places): i + 1}) if places else None


def swapped_by_hand(i, word):
    places = unpaired_by_hand(i, word)
    lows = sum(word[place] == i for place in places)
    return with_letters(word, {place: i + 1 if at < lows else i for at, place in enumerate(places)})


def head_by_hand(n, word, order):
    """Up, at the first i of this order at which it can go."""
    while True:
        for i in order:
            higher = up_by_hand(i, word)
            if higher is not None:
                word = higher
                break
        else:
            return word


def closed_words(n, word):
    """All words that come of one by ups and downs."""
    told, todo = {word}, [word]
    while todo:
        one = todo.pop()
        for i in range(n - 1):
            for other in (up_by_hand(i, one), down_by_hand(i, one)):
                if other is not None and other not in told:
                    told.add(other)
                    todo.append(other)
    return sorted(told)


class IsWord(unittest.TestCase):
    def test_right_and_wrong(self):
        for n in range(1, 6):
            right = [(), (0,), (n - 1,), (0,) * 8, tuple(range(n)), (n - 1, 0, n - 1), (0,) * 1000]
            wrong = [(n,), (-1,), (0, n), (n, 0), (0, -1), (0, 10 ** 39), (True,), (False,), (0, False), [0], [], "0", "",
                     0, None, True, ((),), ((0,),), (0, (0,)), ("0",), (None,), (0, [0]), nested(40)]
            odd = [thing for thing in ODD_THINGS if not (isinstance(thing, tuple) and all(k in range(n) for k in thing))]
            for thing in right:
                self.assertIs(is_word(n, thing), True)
            look(self, lambda thing: is_word(n, thing), [word for word in right if len(word) < 9], wrong + odd)

    def test_all_short_words(self):
        for n in range(1, 6):
            for many in range(4):
                for word in itertools.product(range(-1, 6), repeat=many):
                    self.assertIs(is_word(n, word), all(0 <= letter < n for letter in word))


class Steps(unittest.TestCase):
    def each(self):
        for word in WORDS:
            for i in (0, 1):
                yield i, word
        for word in LONG_WORDS:
            for i in range(4):
                yield i, word

    def test_against_pairs_left_out(self):
        for i, word in self.each():
            same(self, unpaired_at(i, word), unpaired_by_hand(i, word))
            same(self, up_at(i, word), up_by_hand(i, word))
            same(self, down_at(i, word), down_by_hand(i, word))
            same(self, swapped_at(i, word), swapped_by_hand(i, word))

    def test_no_letters(self):
        for i in range(5):
            for word in ((), (i + 2,), (i + 2, i + 3, i + 2), (40, 39) if i < 37 else ()):
                same(self, unpaired_at(i, word), ())
                same(self, up_at(i, word), None)
                same(self, down_at(i, word), None)
                same(self, swapped_at(i, word), word)
        same(self, unpaired_at(1, (0, 0, 3)), ())

    def test_plain_ones(self):
        same(self, unpaired_at(0, (1, 0, 0, 1, 1, 0, 1)), (0,))
        same(self, unpaired_at(0, (1, 1, 0, 2, 1, 0, 0)), (0, 1, 5, 6))
        same(self, up_at(0, (1, 1, 0, 2, 1, 0, 0)), (1, 0, 0, 2, 1, 0, 0))
        same(self, down_at(0, (1, 1, 0, 2, 1, 0, 0)), (1, 1, 0, 2, 1, 1, 0))
        same(self, swapped_at(0, (1, 0, 0, 0)), (1, 1, 1, 0))
        same(self, swapped_at(0, (1, 1, 0, 2, 1, 0)), (1, 0, 0, 2, 1, 0))
        same(self, up_at(0, (0, 1)), None)
        same(self, down_at(0, (0, 1)), None)
        same(self, up_at(0, (1, 0)), (0, 0))
        same(self, down_at(0, (1, 0)), (1, 1))
        same(self, up_at(3, (4, 9, 3)), (3, 9, 3))
        same(self, down_at(8, (4, 9, 8)), (4, 9, 9))

    def test_unpaired_high_ones_are_ahead(self):
        for i, word in self.each():
            letters = [word[place] for place in unpaired_at(i, word)]
            self.assertEqual(letters, sorted(letters, reverse=True))

    def test_up_and_down_undo_one_another(self):
        for i, word in self.each():
            higher, lower = up_at(i, word), down_at(i, word)
            if higher is not None:
                same(self, down_at(i, higher), word)
            if lower is not None:
                same(self, up_at(i, lower), word)

    def test_swapped_twice_and_three_times(self):
        for i, word in self.each():
            swapped = swapped_at(i, word)
            same(self, swapped_at(i, swapped), word)
            self.assertEqual((swapped.count(i), swapped.count(i + 1)), (word.count(i + 1), word.count(i)))
            j = i + 1
            same(self, swapped_at(i, swapped_at(j, swapped_at(i, word))), swapped_at(j, swapped_at(i, swapped_at(j, word))))


class Heads(unittest.TestCase):
    def test_against_going_up(self):
        for word in WORDS:
            for n in (3, 4, 5):
                for order in (range(n - 1), range(n - 2, -1, -1), (1, 0, 2, 3)[:n - 1]):
                    same(self, head_of(n, word), head_by_hand(n, word, order))
        for word in LONG_WORDS:
            for order in itertools.permutations(range(4)):
                same(self, head_of(5, word), head_by_hand(5, word, order))

    def test_heads_are_their_own_and_latticed(self):
        for word in WORDS:
            head = head_of(3, word)
            same(self, head_of(3, head), head)
            self.assertTrue(all(head[:end].count(k + 1) <= head[:end].count(k) for end in range(6) for k in range(3)))

    def test_one_head_for_all_that_come_of_one(self):
        for word in WORDS[::7]:
            self.assertEqual({head_of(3, other) for other in closed_words(3, word)}, {head_of(3, word)})

    def test_few_letters(self):
        for n in range(1, 6):
            same(self, head_of(n, ()), ())
            same(self, head_of(n, (0, 0)), (0, 0))
            same(self, head_of(n, (n - 1,)), (0,))
        same(self, head_of(2, (1, 0, 1)), (0, 0, 1))
        same(self, head_of(3, (2, 1, 0)), (0, 0, 0))
        same(self, head_of(3, (0, 1, 2)), (0, 1, 2))
        # Words of two letters go up at 0 alone.
        same(self, head_of(2, (0, 0)), (0, 0))
        same(self, head_of(1, (0, 0, 0)), (0, 0, 0))


if __name__ == "__main__":
    unittest.main()
