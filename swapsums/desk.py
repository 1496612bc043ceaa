"""A desk that keeps TELLINGs by NAMEs, and answers rows."""

from swapsums.errors import NoName, NoPaper, NoRow, TooMany
from swapsums.headchecker import lets_made, lets_words
from swapsums.leading import are_one, led, to_shapes
from swapsums.likechecker import lets_like
from swapsums.likeness import like_paper
from swapsums.pairing import paired
from swapsums.products import times_sum
from swapsums.ratios import NOUGHT
from swapsums.sums import added, greatest_size, is_way, number_at, of_size, scaled
from swapsums.sumtexts import ratio_text, read, read_figures, read_ratio, read_shape, shown
from swapsums.things import LETTERS, read_thing, shown_thing
from swapsums.turning import turned_sum
from swapsums.values import all_alike

# What stands behind a row's first word: OLD is a kept NAME, A what is kept under it, MANY and FEW are Ns with bounds.
FORMS = {
    "keep": ("NEW", "TELLING"),
    "lead": ("NEW", "A", "WAY"),
    "turn": ("NEW", "A"),
    "plus": ("NEW", "A", "A"),
    "times": ("NEW", "A", "A"),
    "scale": ("NEW", "A", "RATIO"),
    "size": ("NEW", "A", "N"),
    "drop": ("OLD",),
    "undo": (),
    "show": ("A",),
    "names": (),
    "at": ("A", "SHAPE"),
    "pair": ("A", "A"),
    "every": ("A", "MANY", "RATIO"),
    "one": ("A", "A"),
    "like": ("A", "A", "THING"),
    "words": ("FEW", "THING"),
    "made": ("FEW", "A", "THING"),
    "paper": ("A", "A"),
}
BOUNDS = {"N": (0, 99), "MANY": (0, 60), "FEW": (1, 5)}
MOST_LETTERS = 4
MOST_FIGURES = 40
FIGURES_END = 10 ** 40
MOST_SIZE = 6
MOST_LIKE_SIZE = 5


def parted(row):
    """The words of a row, a TELLING or THING as one, or NoRow."""
    words = row.split(" ")
    if words[0] not in FORMS:
        raise NoRow(row)
    form = FORMS[words[0]]
    if "TELLING" in form or "THING" in form:
        words = row.split(" ", len(form))
    if len(words) != len(form) + 1:
        raise NoRow(row)
    return words


def read_word(kind, text):
    """What a word of a row stands for by its kind, or None; NAMEs, TELLINGs and THINGs are left as they stand."""
    if kind in ("NEW", "OLD", "A"):
        return text if is_name(text) else None
    if kind == "WAY":
        return text if is_way(text) else None
    if kind == "SHAPE":
        return read_shape(text)
    if kind == "RATIO":
        return NOUGHT if text == "0" else read_ratio(text, MOST_FIGURES)
    if kind in BOUNDS:
        return read_bounded(text, BOUNDS[kind])
    return text


def is_name(text):
    """Whether a text is a NAME."""
    return 1 <= len(text) <= MOST_LETTERS and all(sign in LETTERS for sign in text)


def read_bounded(text, bounds):
    """The number N within its bounds that at most two figures write, or None."""
    least, most = bounds
    number = 0 if text == "0" else read_figures(text, 2)
    return number if number is not None and least <= number <= most else None


def led_to(way, telling):
    """The SUM of a way that is ONE with a TELLING."""
    return led(telling[0], way, telling[1])


def told_made(things):
    """A TELLING as it is told."""
    return things[0]


def lead_made(things):
    """A TELLING led to a WAY."""
    telling, way = things
    return (way, led_to(way, telling))


def turn_made(things):
    """A TELLING with its SUM turned."""
    way, some = things[0]
    return (way, turned_sum(way, some))


def plus_made(things):
    """The sum of two TELLINGs, by the first one's WAY."""
    (way, some), other = things
    return (way, added(some, led_to(way, other)))


def times_made(things):
    """The product of two TELLINGs, by the first one's WAY, or TooMany."""
    (way, some), other = things
    if some and other[1] and greatest_size(some) + greatest_size(other[1]) > MOST_SIZE:
        raise TooMany("size")
    return (way, times_sum(way, some, led_to(way, other)))


def scale_made(things):
    """A TELLING with each ratio times a RATIO."""
    (way, some), number = things
    return (way, scaled(number, some))


def size_made(things):
    """What a TELLING has of a size."""
    (way, some), n = things
    return (way, of_size(some, n))


def show_told(things):
    """The text of a TELLING."""
    way, some = things[0]
    return shown(way, some)


def at_told(things):
    """The RATIO of a TELLING at a shape."""
    (way, some), shape = things
    return ratio_text(number_at(some, shape))


def pair_told(things):
    """The RATIO to which two TELLINGs pair."""
    one, other = things
    return ratio_text(paired(one, other))


def every_told(things):
    """The value of a TELLING with so many letters, each of one value."""
    telling, n, value = things
    return ratio_text(all_alike(telling, n, value))


def one_told(things):
    """Whether two TELLINGs are ONE."""
    one, other = things
    return "one" if are_one(one, other) else "not"


def like_told(things):
    """What the like checker says of a THING, or TooMany."""
    one, other, thing = things
    look_for_likeness(one, other)
    try:
        return lets_like(one, other, thing)
    except NoPaper as refusal:
        return wrong(refusal.word, refusal.number)


def paper_told(things):
    """The text of a like paper, or TooMany."""
    one, other = things
    look_for_likeness(one, other)
    return shown_thing(like_paper(one, other))


def look_for_likeness(one, other):
    """TooMany where one of two TELLINGs has too great a size for like papers."""
    if max(greatest_size(one[1]), greatest_size(other[1])) > MOST_LIKE_SIZE:
        raise TooMany("size")


def words_told(things):
    """What the word checker says of a THING."""
    n, thing = things
    try:
        lets_words(n, thing)
    except NoPaper as refusal:
        return wrong(refusal.word, refusal.number)
    return "right"


def made_told(things):
    """What the made checker says of a TELLING, led to shapes, and a THING."""
    n, (way, some), thing = things
    try:
        lets_made(n, to_shapes(way, some), thing)
    except NoPaper as refusal:
        return wrong(refusal.word, refusal.number)
    return "right"


def wrong(word, number):
    """The answer where a checker refuses."""
    return "wrong " + word + " " + str(number)


# Each gets what stands behind the row's first word, those that make something to be kept without NEW.
MAKERS = {"keep": told_made, "lead": lead_made, "turn": turn_made, "plus": plus_made, "times": times_made,
          "scale": scale_made, "size": size_made}
TELLERS = {"show": show_told, "at": at_told, "pair": pair_told, "every": every_told, "one": one_told,
           "like": like_told, "words": words_told, "made": made_told, "paper": paper_told}


def look_to_keep(some):
    """TooMany where a SUM is too great to be kept."""
    if greatest_size(some) > MOST_SIZE:
        raise TooMany("size")
    if not all(abs(top) < FIGURES_END and bottom < FIGURES_END for shape, (top, bottom) in some):
        raise TooMany("figures")


class Desk:
    """Keeps TELLINGs by NAMEs, at first none."""

    def __init__(self):
        self.kept = {}
        # Of each keeping and letting go that still holds: the NAME, and what had stood there, or None.
        self.past = []

    def say(self, row):
        """The answer to a row, or a refusal, which changes nothing."""
        words = parted(row)
        word = words[0]
        things = self.things_of(row, FORMS[word], words[1:])
        if word in MAKERS:
            make = MAKERS[word]
            return self.keep(things[0], make(things[1:]))
        if word in TELLERS:
            tell = TELLERS[word]
            return tell(things)
        if word == "names":
            return " ".join(sorted(self.kept)) if self.kept else "-"
        if word == "drop":
            return self.drop(things[0])
        return self.undo(row)

    def things_of(self, row, form, words):
        """What the words of a row stand for, or NoRow, NoName, NoText, in this order."""
        told = [read_word(kind, text) for kind, text in zip(form, words)]
        if None in told:
            raise NoRow(row)
        # NAMEs stand ahead of TELLINGs and THINGs in each form.
        return [self.thing_of(kind, thing) for kind, thing in zip(form, told)]

    def thing_of(self, kind, thing):
        """What a word that was read stands for at this desk, or NoName, or NoText."""
        if kind in ("OLD", "A") and thing not in self.kept:
            raise NoName(thing)
        if kind == "A":
            return self.kept[thing]
        if kind == "TELLING":
            return read(thing)
        return read_thing(thing) if kind == "THING" else thing

    def keep(self, name, telling):
        """Keeps a TELLING under a NAME, or TooMany; answers its text."""
        look_to_keep(telling[1])
        self.past.append((name, self.kept.get(name)))
        self.kept[name] = telling
        return shown(telling[0], telling[1])

    def drop(self, name):
        """Lets go what is kept under a NAME."""
        self.past.append((name, self.kept[name]))
        del self.kept[name]
        return "ok"

    def undo(self, row):
        """Takes back the last keeping or letting go that still holds, or NoRow."""
        if not self.past:
            raise NoRow(row)
        name, before = self.past.pop()
        if before is None:
            del self.kept[name]
        else:
            self.kept[name] = before
        return "ok"
