import unittest

from plain_things import same
from swapsums.errors import NoText
from swapsums.sumtexts import read, shown

WAYS = ["shapes", "powers", "choices", "repeats", "tables"]
GREAT = 10 ** 400 - 1
WRITTEN = [
    ((), ""),
    ((((), (1, 1)),), " -:1"),
    ((((), (-1, 1)),), " -:-1"),
    ((((), (-7, 10)), ((1,), (1, 2))), " -:-7/10 1:1/2"),
    ((((2, 1), (3, 1)), ((2, 1, 1), (-3, 4)), ((10,), (1, 1))), " 2.1:3 2.1.1:-3/4 10:1"),
    ((((999, 100, 20, 3), (10, 9)),), " 999.100.20.3:10/9"),
    ((((1,) * 30, (GREAT, GREAT - 1)),), " " + ".".join("1" * 30) + ":" + "9" * 400 + "/" + "9" * 399 + "8"),
    ((((1,), (-GREAT, 1)),), " 1:-" + "9" * 400),
    ((((1,), (1, GREAT)),), " 1:1/" + "9" * 400),
    (tuple(((part,), (part, 7)) for part in range(1, 7)), " 1:1/7 2:2/7 3:3/7 4:4/7 5:5/7 6:6/7"),
]
NO_PAIRS = """
: 1 - 1: :1 -: 1:0 1:-0 1:+1 1:01 1:-01 1:00 1:1/1 1:2/1 1:2/2 1:4/2 1:-4/6 1:0/1 1:0/2 1:1/0 1:1/-2 1:1/02 1:1/ 1:/2
1:- 1:--1 1:-/2 1:1/2/3 1:1:1 1::1 1:1. 1:1.5 1:a 1:1a a:1 0:1 01:1 00:1 -1:1 --:1 -.1:1 1.-:1 1.2:1 2.1.2:1 1.0:1
2..1:1 .1:1 1.:1 .:1 1000:1 1000.1:1 2.0001:1 1,1:1 (1):1 1;1 1:1_0 1_0:1 +1:1 shapes powers - ~ 1:1/2. 1:1- 1:2/3-
""".split()


class Sumtexts(unittest.TestCase):
    def test_shown(self):
        for way in WAYS:
            for some, text in WRITTEN:
                same(self, shown(way, some), way + text)

    def test_read(self):
        for way in WAYS:
            for some, text in WRITTEN:
                same(self, read(way + text), (way, some))

    def test_more_pairs_and_parts_than_are_written_are_read(self):
        some = tuple(((part,) * 40, (1, 1)) for part in range(1, 12))
        same(self, read(shown("tables", some)), ("tables", some))

    def refused(self, text, at):
        with self.assertRaises(NoText) as told:
            read(text)
        same(self, told.exception.at, at)

    def test_word_0_is_no_way(self):
        for text in ("", " ", "  ", "shape", "Shapes", " shapes", "shapes:1", "shapes,powers", "1:1", "-", "shapes\t",
                     "shapesshapes", "x 1:0 2:0", " 1:1", "shapesx  ", "~", "'shapes'"):
            self.refused(text, 0)

    def test_words_that_write_no_pair(self):
        for word in NO_PAIRS:
            self.refused("shapes " + word, 1)
            self.refused("tables -:1 " + word + " 1:0", 2)
            self.refused("powers -:1 999:2/3 " + word, 3)

    def test_too_many_figures(self):
        for word in ("1:" + "9" * 401, "1:-" + "9" * 401, "1:1/" + "9" * 401, "1000:1", "1000.1:1", "5.1000:1",
                     "1:1" + "0" * 400):
            self.refused("repeats -:1 " + word, 2)
        same(self, read("repeats 1:1" + "0" * 399), ("repeats", (((1,), (10 ** 399, 1)),)))

    def test_shapes_that_are_not_greater(self):
        for first, second in (("1", "1"), ("1", "-"), ("-", "-"), ("2", "1"), ("2", "1.1"), ("2.1", "2"), ("10", "9"),
                              ("3.2.1", "3.2"), ("2.1", "2.1")):
            self.refused("choices " + first + ":1 " + second + ":1", 2)
            self.refused("choices " + first + ":1 " + second + ":1 nothing", 2)
        self.refused("choices 1:1 3:1 2:1 4:1", 3)

    def test_blanks(self):
        self.refused("shapes ", 1)
        self.refused("shapes  1:1", 1)
        self.refused("shapes 1:1 ", 2)
        self.refused("shapes 1:1  2:1", 2)
        self.refused("shapes 1:1 2:1  ", 3)

    def test_the_first_word_that_cannot_stand(self):
        self.refused("shapes 1:1 2:2/4 1:1 x", 2)
        self.refused("shapes 1:1 2:2/3 1:1 x", 3)
        self.refused("shapes 1:1 2:2/3 3:1 x", 4)

    def test_each_text_that_is_read_is_what_is_shown(self):
        signs = "-1./:0 2"
        texts = [""]
        for long in range(4):
            texts = texts + [text + sign for text in texts if len(text) == long for sign in signs]
        for text in texts:
            for ahead in ("shapes", "shapes ", "shapes 1:1", "shapes 1:1/"):
                try:
                    told = read(ahead + text)
                except NoText:
                    continue
                same(self, shown(*told), ahead + text)


if __name__ == "__main__":
    unittest.main()
