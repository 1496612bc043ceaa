"""Latticed words, and TABLES whose words are such."""

from swapsums.tables import in_rows, row_starts


def is_latticed(word):
    """Whether in each first part of a word no letter k + 1 comes oftener than k."""
    return all(goes_on(word[:at], letter) for at, letter in enumerate(word))


def goes_on(word, letter):
    """Whether a latticed word stays so with this letter behind it."""
    return letter == 0 or word.count(letter) < word.count(letter - 1)


def word_of(table):
    """The letters of a TABLE, from the top row on, each row from the right to the left."""
    return tuple(letter for row in table for letter in row[::-1])


def latticed(skew, content):
    """The TABLES of a SKEW with this content whose words are latticed, rising."""
    ties = word_ties(skew)
    if sum(content) != len(ties):
        return []
    words = [()]
    for right, above in ties:
        words = [word + (letter,) for word in words for letter in next_letters(word, right, above, content)]
    return sorted([tuple(row[::-1] for row in in_rows(skew, word)) for word in words])


def word_ties(skew):
    """Of each box, as words go: the places in the word of the boxes on its right and straight above it, or None
    where there is none."""
    starts = row_starts(skew)
    boxes = [(row, column) for row, end in enumerate(skew[0]) for column in reversed(range(starts[row], end))]
    places = {box: place for place, box in enumerate(boxes)}
    return [(places.get((row, column + 1)), places.get((row - 1, column))) for row, column in boxes]


def next_letters(word, right, above, content):
    """The letters that may stand behind a word, by the next box's neighbours and by what is left of the content."""
    least = 0 if above is None else word[above] + 1
    end = len(content) if right is None else word[right] + 1
    return [letter for letter in range(least, end) if word.count(letter) < content[letter] and goes_on(word, letter)]
