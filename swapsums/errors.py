"""The refusals: all straight under LetterError; each keeps its fields as they are handed in."""


class LetterError(ValueError):
    """Any refusal."""


class NoRatio(LetterError):
    """A bottom of 0, or a division by nought."""


class NoText(LetterError):
    """A text that writes nothing; at is where it can't go on."""

    def __init__(self, at):
        self.at = at


class NoStay(LetterError):
    """A POLY that is another one when letter and letter + 1 are exchanged."""

    def __init__(self, letter):
        self.letter = letter


class NoPaper(LetterError):
    """A paper that a checker doesn't let by: the word says why, the number where."""

    def __init__(self, word, number):
        self.word = word
        self.number = number


class TooMany(LetterError):
    """More than may be told or kept; the word says of what."""

    def __init__(self, word):
        self.word = word


class NoMade(LetterError):
    """A sum that has at this shape no count from 0 on."""

    def __init__(self, shape):
        self.shape = shape


class NoRow(LetterError):
    """A row that is none of a desk's."""

    def __init__(self, row):
        self.row = row


class NoName(LetterError):
    """A name under which nothing is kept."""

    def __init__(self, name):
        self.name = name
