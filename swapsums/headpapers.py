"""Words papers that show of what tables' sums a sum is made."""

from swapsums.errors import NoMade, TooMany
from swapsums.headchecker import MOST_WORDS
from swapsums.hooks import tables_many
from swapsums.latticed import word_of
from swapsums.leading import led
from swapsums.tables import filled


def tables_words(n, shape):
    """The words of all TABLES of a shape with n letters, rising."""
    return sorted([word_of(table) for table in filled((shape, ()), n, None)])


def words_of(n, some):
    """A words paper of n letters whose heads are a SUM of tables, or NoMade, or TooMany."""
    made = [(shape, number) for shape, number in some if len(shape) <= n]
    for shape, (many, bottom) in made:
        if many < 0 or bottom != 1:
            raise NoMade(shape)
    if sum([many * tables_many(shape, n) for shape, (many, bottom) in made]) > MOST_WORDS:
        raise TooMany("words")
    # Each time that a shape comes it has a mark of its own.
    shapes = [shape for shape, (many, bottom) in made for count in range(many)]
    return tuple((mark, word) for mark, shape in enumerate(shapes) for word in tables_words(n, shape))


def made_paper(n, some):
    """A words paper of n letters that shows a SUM of shapes to be made, or NoMade, or TooMany."""
    return words_of(n, led("shapes", "tables", some))


def product_paper(n, one, other):
    """A words paper of n letters whose contents are the product of two shapes by tables, or TooMany."""
    if tables_many(one, n) * tables_many(other, n) > MOST_WORDS:
        raise TooMany("words")
    lasts = tables_words(n, other)
    return tuple((0, first + last) for first in tables_words(n, one) for last in lasts)
