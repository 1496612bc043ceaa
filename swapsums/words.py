"""WORDs of n letters, and the steps up and down at neighbouring letters."""

from swapsums.plain import is_whole


def is_word(n, thing):
    """Whether any plain thing is a WORD of n letters."""
    return isinstance(thing, tuple) and all(is_whole(letter) and 0 <= letter < n for letter in thing)


def unpaired_at(i, word):
    """The places of a word's letters i and i + 1 that stay unpaired, rising."""
    waiting = []
    alone = []
    for place, letter in enumerate(word):
        if letter == i:
            waiting.append(place)
        elif letter == i + 1 and waiting:
            waiting.pop()
        elif letter == i + 1:
            alone.append(place)
    # An i + 1 stays alone only where no i is waiting: all these stand ahead.
    return tuple(alone + waiting)


def unpaired_with(i, word, letter):
    """The unpaired places at i that have this letter, i or i + 1."""
    return [place for place in unpaired_at(i, word) if word[place] == letter]


def put_at(word, place, letter):
    """A word with this letter at a place."""
    return word[:place] + (letter,) + word[place + 1:]


def up_at(i, word):
    """The word up at i, or None."""
    places = unpaired_with(i, word, i + 1)
    return put_at(word, places[-1], i) if places else None


def down_at(i, word):
    """The word down at i, or None."""
    places = unpaired_with(i, word, i)
    return put_at(word, places[0], i + 1) if places else None


def swapped_at(i, word):
    """The word with as many unpaired i + 1 as it had unpaired i, and the other way about."""
    many = len(unpaired_with(i, word, i))
    swapped = word
    for number, place in enumerate(unpaired_at(i, word)):
        swapped = put_at(swapped, place, i + 1 if number < many else i)
    return swapped


def up_somewhere(n, word):
    """The word up at the least i at which it can go, or None."""
    for i in range(n - 1):
        higher = up_at(i, word)
        if higher is not None:
            return higher
    return None


def head_of(n, word):
    """The word that comes of going up till it can go up nowhere."""
    head = word
    higher = up_somewhere(n, word)
    while higher is not None:
        head = higher
        higher = up_somewhere(n, head)
    return head
