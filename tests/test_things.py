import functools
import re
import unittest

from plain_things import nested, same
from swapsums.errors import NoText
from swapsums.headpapers import words_of
from swapsums.likeness import like_paper
from swapsums.rules import rule_sum
from swapsums.things import read_thing, shown_thing

GREAT = 10 ** 2000 - 1
WRITTEN = [
    (0, "0"), (1, "1"), (-1, "-1"), (10, "10"), (-120, "-120"), (9, "9"),
    (GREAT, "9" * 2000), (-GREAT, "-" + "9" * 2000), (10 ** 1999, "1" + "0" * 1999),
    ("a", "a"), ("z", "z"), ("power-repeat", "power-repeat"), ("a-b", "a-b"), ("a--b", "a--b"), ("abcdefghijklmnop", "abcdefghijklmnop"),
    ("a--------------z", "a--------------z"),
    ((), "()"), ((1,), "(1)"), ((1, 2), "(1 2)"), (((),), "(())"), (((), ()), "(() ())"), ((0, -1, "a", ()), "(0 -1 a ())"),
    (("alike", (("both", 1, (), (-1, 2)),)), "(alike ((both 1 () (-1 2))))"),
    (nested(11), "(" * 12 + ")" * 12),
    (("a", (nested(9), -7), "b-c", 0), "(a (" + "(" * 10 + ")" * 10 + " -7) b-c 0)"),
]
SHORT = [text for thing, text in WRITTEN if len(text) < 60]
SIGNS = " ()-0129abz.A/,~"
NUMBER = re.compile(r"-?[1-9][0-9]{0,1999}|0")
WORDING = re.compile(r"[a-z]([a-z-]{0,14}[a-z])?")


def is_written(text):
    """Whether a text writes a THING: words made x, then innermost tuples made x, twelve times at most."""
    for word in re.findall(r"[^() ]+", text):
        if not NUMBER.fullmatch(word) and not WORDING.fullmatch(word):
            return False
    left = re.sub(r"[^() ]+", "x", text)
    for level in range(12):
        left = re.sub(r"\((x( x)*)?\)", "x", left)
    return left == "x"


@functools.lru_cache(None)
def is_start(text):
    """Whether some written text begins so: with a figure or a letter more, or none, and tuples closed."""
    return any(is_written(text + more + ")" * many) for more in ("", "1", "a") for many in range(13))


def place_by_hand(text):
    """The place that NoText tells, None where the text writes a THING."""
    if is_written(text):
        return None
    for place in range(len(text)):
        if not is_start(text[:place + 1]):
            return place
    return len(text)


class Things(unittest.TestCase):
    def refused(self, text, at):
        with self.assertRaises(NoText) as told:
            read_thing(text)
        same(self, told.exception.at, at)

    def read_as_by_hand(self, text):
        at = place_by_hand(text)
        if at is None:
            same(self, shown_thing(read_thing(text)), text)
        else:
            self.refused(text, at)

    def test_shown_and_read(self):
        for thing, text in WRITTEN:
            same(self, shown_thing(thing), text)
            same(self, read_thing(text), thing)
            self.assertIsNone(place_by_hand(text))

    def test_papers(self):
        one, other = ("tables", (((2, 2, 1), (1, 2)), ((5,), (1, 1)))), ("powers", (((5,), (1, 1)),))
        for thing in (one, other, like_paper(one, other), like_paper(one, one), like_paper(one, ("tables", ())),
                      words_of(3, (((2, 1), (3, 1)),)), rule_sum("table", (2, 2, 1)), ("shape", (1, (2, 1)))):
            same(self, read_thing(shown_thing(thing)), thing)

    def test_stops_too_early(self):
        for thing, text in WRITTEN:
            for end in range(len(text)) if len(text) < 60 else (0, 1, 2, 3, len(text) - 1):
                self.read_as_by_hand(text[:end])
        self.refused("", 0)
        for text in ("-", "(", "(1", "(1 ", "((1) (", "a-", "(a-", "(-", "(" * 12, "a" + "-" * 14, "(a--"):
            self.refused(text, len(text))

    def test_one_sign_more_fewer_or_otherwise(self):
        for text in SHORT:
            for place in range(len(text) + 1):
                self.read_as_by_hand(text[:place] + text[place + 1:])
                for sign in SIGNS:
                    self.read_as_by_hand(text[:place] + sign + text[place:])
                    self.read_as_by_hand(text[:place] + sign + text[place + 1:])

    def test_all_short_texts(self):
        texts = [""]
        for long in range(5):
            texts += [text + sign for text in texts if len(text) == long for sign in " ()-01a"]
        for text in texts:
            self.read_as_by_hand(text)

    def test_numbers(self):
        for text, at in (("00", 1), ("01", 1), ("-0", 1), ("--1", 1), ("-01", 1), ("1-", 1), ("1a", 1), ("1 ", 1), ("1 2", 1), ("+1", 0),
                         ("1(", 1), ("1)", 1), ("0)", 1), ("0 ", 1), ("-a", 1), ("- 1", 1), ("-(", 1), (" 1", 0), ("1.0", 1),
                         ("1_0", 1), ("(00)", 2), ("(0-)", 2), ("(-0)", 2), ("(10 01)", 5), ("(1,2)", 2), ("1" * 2001, 2000),
                         ("-" + "1" * 2001, 2001), ("(" + "1" * 2001 + ")", 2001), ("1" * 2000 + "a", 2000), ("1" * 2000 + ")", 2000),
                         ("(7 -" + "5" * 2003 + ")", 2004), ("0" * 2001, 1)):
            self.refused(text, at)
        same(self, read_thing("(" + "1" * 2000 + ")"), (int("1" * 2000),))

    def test_wordings(self):
        letters = "abcdefghijklmnop"
        for text, at in ((letters + "q", 16), (letters + "-", 16), (letters[:15] + "-", 15), (letters[:15] + "-a", 15), ("-a", 1),
                         ("a-", 2), ("a- ", 2), ("(a-)", 3), ("(a- b)", 3), ("a1", 1), ("a-1", 2), ("aB", 1), ("A", 0), ("a_b", 1), ("a b", 1),
                         ("a(", 1), ("a)", 1), ("a" + "-" * 15, 15), ("a" + "-" * 14 + ")", 15), ("(" + letters + "q)", 17),
                         ("(" + letters[:15] + "-)", 16), ("a'", 1), ("\"a\"", 0), ("a.b", 1), ("(-a)", 2)):
            self.refused(text, at)

    def test_tuples(self):
        for text, at in (("( 1)", 1), ("(1 )", 3), ("(1  2)", 3), ("()(", 2), ("() ", 2), ("())", 2), (")", 0), ("(()())", 3), ("(1(2))", 2),
                         ("((1)2)", 4), ("[1]", 0), ("(1,)", 2), (" ()", 0), ("( )", 1), ("(a b", 4), ("(" * 13, 12),
                         ("(" * 13 + ")" * 13, 12), ("(" * 12 + "1" + ")" * 13, 25), ("(" * 12 + "() ", 12),
                         ("(1 " + "(" * 12, 14), ("(" * 11 + "() " + "(", 15)):
            self.refused(text, at)
        same(self, read_thing("(" * 11 + "() ()" + ")" * 11), read_thing("(" * 10 + "(() ())" + ")" * 10))
        same(self, read_thing("(" * 12 + "1 a" + ")" * 12), read_thing("((((((((((((1 a))))))))))))"))

    def test_of_many_signs(self):
        thing = tuple((k, ("a-b", -k)) for k in range(5000))
        text = shown_thing(thing)
        same(self, read_thing(text), thing)
        self.refused(text + " ", len(text))
        self.refused(text[:-1], len(text) - 1)


if __name__ == "__main__":
    unittest.main()
