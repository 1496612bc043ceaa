import itertools
import unittest

from plain_things import same
from swapsums.desk import Desk
from swapsums.errors import LetterError, NoName, NoRow, NoText, TooMany
from swapsums.headpapers import made_paper, words_of
from swapsums.leading import are_one, led
from swapsums.likechecker import lets_like
from swapsums.pairing import paired
from swapsums.products import times_sum
from swapsums.sums import added, greatest_size, of_size, scaled
from swapsums.sumtexts import ratio_text, read, shown
from swapsums.things import read_thing, shown_thing
from swapsums.turning import turned_sum
from swapsums.values import all_alike

WAYS = ["shapes", "powers", "choices", "repeats", "tables"]
TELLINGS = ["shapes", "tables 2.1:1", "powers -:-7/2 1.1:1 3:5/9", "choices 1.1.1:2 2.1:-1", "repeats -:1 1:1 2:1 3:1 4:1 5:1",
            "shapes 2.2:1/3 3.1:-4 5:1/999999", "powers 2.1.1.1.1:1 6:-1", "tables 3.2.1:7"]


class Saying(unittest.TestCase):
    def says(self, desk, *rows):
        """Each row, and its answer."""
        for row, wanted in rows:
            same(self, desk.say(row), wanted)

    def told_by(self, *rows):
        """A desk that these rows were told to."""
        desk = Desk()
        for row in rows:
            desk.say(row)
        return desk

    def everything(self, desk):
        """All that a desk keeps."""
        names = desk.say("names")
        return [(name, desk.say("show " + name)) for name in names.split(" ")] if names != "-" else []

    def refused(self, desk, row, kind, *fields):
        """Refused so, and nothing is changed."""
        kept = self.everything(desk)
        with self.assertRaises(LetterError) as told:
            desk.say(row)
        self.assertIs(type(told.exception), kind, row)
        same(self, tuple(vars(told.exception).values()), fields)
        self.assertEqual(self.everything(desk), kept)

    def no_row(self, desk, row):
        self.refused(desk, row, NoRow, row)


class Rows(Saying):
    def test_keep_and_show(self):
        desk = Desk()
        for text in TELLINGS + ["shapes -:1 1:2 2:3 3:4 4:5 5:6"]:
            self.says(desk, ("keep a " + text, text), ("show a", text), ("keep abcd " + text, text), ("show abcd", text))
        self.says(desk, ("names", "a abcd"))

    def test_names(self):
        desk = Desk()
        self.says(desk, ("names", "-"), ("keep b shapes", "shapes"), ("names", "b"), ("keep zz shapes", "shapes"),
                  ("keep aaaa shapes", "shapes"), ("keep ab shapes", "shapes"), ("names", "aaaa ab b zz"),
                  ("drop b", "ok"), ("names", "aaaa ab zz"), ("drop zz", "ok"), ("drop ab", "ok"), ("drop aaaa", "ok"), ("names", "-"))

    def test_names_like_first_words(self):
        desk = Desk()
        self.says(desk, ("keep keep shapes 1:1", "shapes 1:1"), ("keep at shapes 2:1", "shapes 2:1"), ("at at 2", "1"),
                  ("keep one tables 1:1", "tables 1:1"), ("one one keep", "one"), ("names", "at keep one"), ("drop one", "ok"))

    def test_lead(self):
        for text, way in itertools.product(TELLINGS, WAYS):
            old, some = read(text)
            wanted = shown(way, led(old, way, some))
            desk = self.told_by("keep a " + text)
            self.says(desk, ("lead b a " + way, wanted), ("show b", wanted), ("show a", text), ("one a b", "one"))
            self.says(desk, ("lead a a " + way, wanted), ("show a", wanted))

    def test_turn(self):
        for text in TELLINGS:
            way, some = read(text)
            wanted = shown(way, turned_sum(way, some))
            desk = self.told_by("keep a " + text)
            self.says(desk, ("turn b a", wanted), ("show b", wanted), ("turn a b", text))
        self.says(self.told_by("keep a tables 3.1:2"), ("turn a a", "tables 2.1.1:2"))
        self.says(self.told_by("keep a powers 2.1:1 3:1"), ("turn a a", "powers 2.1:-1 3:1"))

    def test_plus(self):
        for first, second in itertools.product(TELLINGS, repeat=2):
            (way, some), (other, more) = read(first), read(second)
            wanted = shown(way, added(some, led(other, way, more)))
            desk = self.told_by("keep a " + first, "keep b " + second)
            self.says(desk, ("plus c a b", wanted), ("show c", wanted), ("show a", first), ("show b", second))

    def test_times(self):
        for first, second in itertools.product(TELLINGS, repeat=2):
            (way, some), (other, more) = read(first), read(second)
            desk = self.told_by("keep a " + first, "keep b " + second)
            if some and more and greatest_size(some) + greatest_size(more) > 6:
                self.refused(desk, "times c a b", TooMany, "size")
            else:
                wanted = shown(way, times_sum(way, some, led(other, way, more)))
                self.says(desk, ("times c a b", wanted), ("show c", wanted))

    def test_scale(self):
        for text in TELLINGS:
            way, some = read(text)
            desk = self.told_by("keep a " + text)
            for number in ((0, 1), (1, 1), (-1, 1), (2, 3), (-7, 9), (10 ** 25 + 1, 10 ** 25)):
                wanted = shown(way, scaled(number, some))
                self.says(desk, ("scale b a " + ratio_text(number), wanted), ("show b", wanted))

    def test_size(self):
        for text in TELLINGS:
            way, some = read(text)
            desk = self.told_by("keep a " + text)
            for n in (0, 1, 2, 3, 5, 6, 7, 10, 99):
                wanted = shown(way, of_size(some, n))
                self.says(desk, ("size b a " + str(n), wanted), ("show b", wanted))

    def test_at(self):
        desk = self.told_by("keep a shapes -:-1/2 2.1:3 3:10/7")
        self.says(desk, ("at a -", "-1/2"), ("at a 2.1", "3"), ("at a 3", "10/7"), ("at a 1", "0"), ("at a 999.998.1", "0"))

    def test_pair_every_and_one(self):
        for first, second in itertools.product(TELLINGS, repeat=2):
            one, other = read(first), read(second)
            desk = self.told_by("keep a " + first, "keep b " + second)
            self.says(desk, ("pair a b", ratio_text(paired(one, other))), ("one a b", "one" if are_one(one, other) else "not"))
            for n, value in ((0, (1, 1)), (1, (-1, 2)), (7, (0, 1)), (60, (10 ** 40 - 1, 10 ** 40 - 3))):
                row = "every a " + str(n) + " " + ratio_text(value)
                self.says(desk, (row, ratio_text(all_alike(one, n, value))))

    def test_plain_ones(self):
        desk = self.told_by("keep a tables 2.1:1", "keep b repeats 2.1:1 3:-1", "keep c tables 3:1")
        self.says(desk, ("one a b", "one"), ("one a c", "not"), ("pair a b", "1"), ("pair a c", "0"), ("every a 2 1", "2"),
                  ("every a 3 1/2", "1"), ("times d a b", "tables 2.2.1.1:1 2.2.2:1 3.1.1.1:1 3.2.1:2 3.3:1 4.1.1:1 4.2:1"),
                  ("plus a a c", "tables 2.1:1 3:1"), ("scale a a -1/2", "tables 2.1:-1/2 3:-1/2"), ("names", "a b c d"))

    def test_a_shape_without_parts_and_nought(self):
        desk = self.told_by("keep a tables", "keep b powers -:3", "keep c powers 6:1")
        self.says(desk, ("times d a c", "tables"), ("times d c a", "powers"), ("times d b c", "powers 6:3"), ("plus e a b", "tables -:3"),
                  ("every b 0 0", "3"), ("every c 0 1", "0"), ("pair a c", "0"), ("lead f a shapes", "shapes"))


class Papers(Saying):
    def test_like(self):
        desk = self.told_by("keep a tables 2:1", "keep b repeats 2:1", "keep c powers 2:1")
        self.says(desk, ("like a b (alike ((table (2) () (1 1))))", "alike"), ("like a b (alike ())", "wrong sum -1"),
                  ("like b a (alike ((table (2) () (1 1))))", "wrong sum -1"), ("like a b (alike ((table (2) () (2 4))))", "wrong row 0"),
                  ("like a b (alike ((table (2) () (1 1)) 5))", "wrong row 1"), ("like a b alike", "wrong shape -1"),
                  ("like a b ()", "wrong shape -1"), ("like a b -5", "wrong shape -1"), ("like a b (unlike (1 1))", "wrong values -1"),
                  ("like a c (unlike (1 1))", "unlike"), ("like a c (unlike (1))", "wrong values -1"),
                  ("like a c (unlike (10))", "wrong shape -1"), ("like a a (alike ())", "alike"))

    def test_paper(self):
        for first, second in itertools.product(TELLINGS, repeat=2):
            desk = self.told_by("keep a " + first, "keep b " + second)
            one, other = read(first), read(second)
            if max(greatest_size(one[1]), greatest_size(other[1])) > 5:
                self.refused(desk, "paper a b", TooMany, "size")
                self.refused(desk, "like a b (alike ())", TooMany, "size")
                continue
            text = desk.say("paper a b")
            word = "alike" if are_one(one, other) else "unlike"
            same(self, lets_like(one, other, read_thing(text)), word)
            self.says(desk, ("like a b " + text, word))
            for way in WAYS:
                desk.say("lead c a " + way)
                self.says(desk, ("like a c " + desk.say("paper a c"), "alike"))

    def test_paper_of_what_rows_made(self):
        # Sums of many pairs and of great numbers come of rows alone.
        desk = self.told_by("keep a shapes -:1/" + "9" * 40 + " 1:2 2:3/7 3:1 4:5 5:1/" + "9" * 39, "keep b tables 1.1:1/11 2.2:4 2.2.1:6",
                            "plus c b a", "lead d c choices", "lead e c repeats", "lead f c powers")
        for name in "cdef":
            for other in "cdef":
                text = desk.say("paper " + name + " " + other)
                self.says(desk, ("like " + name + " " + other + " " + text, "alike"), ("one " + name + " " + other, "one"))

    def test_words(self):
        desk = Desk()
        paper = shown_thing(words_of(3, (((2, 1), (2, 1)),)))
        self.says(desk, ("words 3 " + paper, "right"), ("words 2 " + paper, "wrong shape -1"), ("words 4 " + paper, "wrong down 1"),
                  ("words 1 ()", "right"), ("words 5 ()", "right"), ("words 2 0", "wrong shape -1"), ("words 2 a", "wrong shape -1"),
                  ("words 2 ((0 (0)) (0 (1)))", "right"), ("words 2 ((0 ()) (0 (1)))", "wrong up 1"), ("words 2 ((1000 ()))", "wrong shape -1"))

    def test_made(self):
        desk = self.told_by("keep a repeats 2.1:1", "keep b tables 2.1:1 3:1", "keep c powers 2:1", "keep d shapes")
        paper = shown_thing(made_paper(3, led("repeats", "shapes", (((2, 1), (1, 1)),))))
        self.says(desk, ("made 3 a " + paper, "right"), ("made 3 b " + paper, "right"), ("made 3 c " + paper, "wrong contents 0"),
                  ("made 3 c ()", "wrong contents 0"), ("made 3 d ()", "right"), ("made 3 d " + paper, "wrong contents 0"),
                  ("made 2 a " + paper, "wrong shape -1"), ("made 4 a " + paper, "wrong down 1"), ("made 1 c ((5 (0 0)))", "right"),
                  ("made 2 a ((0 (0)))", "wrong down 0"), ("made 2 a ((0 (1)))", "wrong up 0"))


class Undo(Saying):
    def test_keepings(self):
        desk = Desk()
        self.no_row(desk, "undo")
        self.says(desk, ("keep a shapes 1:1", "shapes 1:1"), ("keep a shapes 2:1", "shapes 2:1"), ("keep b tables", "tables"),
                  ("undo", "ok"), ("names", "a"), ("show a", "shapes 2:1"), ("undo", "ok"), ("show a", "shapes 1:1"),
                  ("undo", "ok"), ("names", "-"))
        self.no_row(desk, "undo")
        self.says(desk, ("keep a shapes", "shapes"), ("undo", "ok"), ("names", "-"))
        self.no_row(desk, "undo")

    def test_droppings(self):
        desk = self.told_by("keep a shapes 1:1", "keep b tables 2:1", "drop a", "drop b")
        self.says(desk, ("names", "-"), ("undo", "ok"), ("names", "b"), ("undo", "ok"), ("names", "a b"), ("show a", "shapes 1:1"),
                  ("undo", "ok"), ("names", "a"), ("undo", "ok"), ("names", "-"))
        self.no_row(desk, "undo")

    def test_what_was_put_aside_stands_again(self):
        desk = self.told_by("keep a shapes 1:1", "drop a", "keep a shapes 2:1", "drop a", "keep a shapes 3:1", "keep a shapes 3:1")
        for wanted in ("shapes 3:1", None, "shapes 2:1", None, "shapes 1:1", None):
            self.says(desk, ("undo", "ok"))
            self.assertEqual(self.everything(desk), [("a", wanted)] if wanted else [])
        self.no_row(desk, "undo")

    def test_an_undo_is_none(self):
        desk = self.told_by("keep a shapes 1:1", "keep a shapes 2:1", "undo")
        self.says(desk, ("keep b shapes", "shapes"), ("undo", "ok"), ("names", "a"), ("show a", "shapes 1:1"), ("undo", "ok"), ("names", "-"))
        self.no_row(desk, "undo")

    def test_each_row_that_keeps(self):
        desk = self.told_by("keep a powers 2:1", "keep b tables 1:3")
        kept = self.everything(desk)
        for row in ("keep a shapes", "lead a b shapes", "turn a a", "plus a a b", "times a a b", "scale a a 0", "size a a 0",
                    "keep c shapes", "lead c b shapes", "turn c a", "plus c a b", "times c a b", "scale c a 5", "size c a 2", "drop a", "drop b"):
            desk.say(row)
            self.assertNotEqual(self.everything(desk), kept)
            self.says(desk, ("undo", "ok"))
            self.assertEqual(self.everything(desk), kept)

    def test_rows_that_only_tell_and_refusals_are_not_undone(self):
        desk = self.told_by("keep a powers 2:1", "keep b tables 2:1")
        for row in ("show a", "names", "at a 2", "pair a b", "every a 3 1", "one a b", "like a b (unlike (1 1))", "words 1 ()", "made 1 a ()",
                    "paper a b"):
            desk.say(row)
        for row in ("keep c shapes 7:1", "keep c x", "drop c", "plus c a d", "keep", "lead c a x", "scale c a 1/0"):
            with self.assertRaises(LetterError):
                desk.say(row)
        self.says(desk, ("names", "a b"), ("undo", "ok"), ("names", "a"), ("undo", "ok"), ("names", "-"))
        self.no_row(desk, "undo")

    def test_two_desks_are_apart(self):
        one, other = Desk(), Desk()
        self.says(one, ("keep a shapes 1:1", "shapes 1:1"))
        self.says(other, ("names", "-"), ("keep a tables 2:1", "tables 2:1"), ("keep b tables", "tables"))
        self.says(one, ("names", "a"), ("show a", "shapes 1:1"), ("undo", "ok"), ("names", "-"))
        self.no_row(one, "undo")
        self.says(other, ("names", "a b"), ("undo", "ok"), ("undo", "ok"))
        self.no_row(other, "undo")


RIGHT_ROWS = ["keep c shapes 1:1", "lead c a tables", "turn c a", "plus c a b", "times c a b", "scale c a -1/2", "size c a 3", "drop a",
              "undo", "show a", "names", "at a 2.1", "pair a b", "every a 60 1/2", "one a b", "like a b (alike ())", "words 2 ()",
              "made 2 a ()", "paper a b"]
TAILED = ("keep", "like", "words", "made")


class Refusals(Saying):
    def desk(self):
        return self.told_by("keep a tables 2.1:1", "keep b powers 2:3/4")

    def test_right_rows_are_answered(self):
        for row in RIGHT_ROWS:
            self.assertIsInstance(self.desk().say(row), str)

    def test_words_too_many_or_too_few(self):
        desk = self.desk()
        for row in RIGHT_ROWS:
            words = row.split(" ")
            for many in range(1, len(words)):
                short = " ".join(words[:many])
                if words[0] not in TAILED or many < {"keep": 3, "like": 4, "words": 3, "made": 4}[words[0]]:
                    self.no_row(desk, short)
            if words[0] not in TAILED:
                for more in ("a", "b", "1", "shapes", "", "x y"):
                    self.no_row(desk, row + " " + more)

    def test_blanks(self):
        desk = self.desk()
        for row in RIGHT_ROWS:
            self.no_row(desk, " " + row)
            self.no_row(desk, row.replace(" ", "  ", 1) if " " in row else row + "  ")
            if row.split(" ")[0] not in TAILED:
                self.no_row(desk, row + " ")
                for place in [place for place, sign in enumerate(row) if sign == " "]:
                    self.no_row(desk, row[:place] + " " + row[place:])
        self.refused(desk, "keep c shapes 1:1 ", NoText, 2)
        self.refused(desk, "keep c shapes  1:1", NoText, 1)
        self.refused(desk, "keep c  shapes 1:1", NoText, 0)
        self.refused(desk, "keep c ", NoText, 0)
        self.refused(desk, "keep c  ", NoText, 0)
        self.refused(desk, "like a b ", NoText, 0)
        self.refused(desk, "like a b  ()", NoText, 0)
        self.refused(desk, "like a b (alike ()) ", NoText, 10)
        self.refused(desk, "words 2 ", NoText, 0)
        self.refused(desk, "made 2 a ", NoText, 0)
        self.refused(desk, "made 2 a () ", NoText, 2)

    def test_no_rows_at_all(self):
        desk = self.desk()
        for row in ("", " ", "a", "Keep c shapes", "KEEP c shapes", "keeps c shapes", "name", "nameS", "ok", "-", "keep\tc shapes", "undoundo",
                    "undo undo", "names a", "help", "keep", "keep c", "keep a", "shapes", "~", "say names"):
            self.no_row(desk, row)

    def test_names_that_are_none(self):
        desk = self.desk()
        for name in ("abcde", "A", "a1", "1", "a-", "-", "aB", "", "a.b", "(a)", "abcdefghi", "~"):
            for row in ("keep N shapes", "lead N a shapes", "lead c N shapes", "turn N a", "turn c N", "plus N a b", "plus c N b",
                        "plus c a N", "times N a b", "times c N b", "times c a N", "scale N a 2", "scale c N 2", "size N a 2", "size c N 2",
                        "drop N", "show N", "at N 1", "pair N b", "pair a N", "every N 2 1", "one N a", "one a N", "like N a ()", "like a N ()",
                        "made 2 N ()", "paper N a", "paper a N"):
                self.no_row(desk, row.replace("N", name))

    def test_ways_shapes_and_ratios_that_are_none(self):
        desk = self.desk()
        for way in ("", "shape", "Shapes", "way", "a", "1", "shapes."):
            self.no_row(desk, "lead c a " + way)
        for shape in ("", "0", "1.2", "2.0", "1.", ".1", "01", "1000", "1,1", "--", "(2 1)", "2.1:1", "-1", "a", "2.1.-"):
            self.no_row(desk, "at a " + shape)
        for number in ("", "-", "-0", "00", "01", "2/4", "0/1", "0/2", "1/0", "1/1", "2/1", "1/-2", "1/02", "+1", "1.5", "1/", "/2", "a", "--1",
                       "1/2/3", "9" * 41, "-" + "9" * 41, "1/" + "9" * 41, "1" + "0" * 40):
            self.no_row(desk, "scale c a " + number)
            self.no_row(desk, "every a 3 " + number)
        self.says(desk, ("every a 1 " + "9" * 40, "0"), ("every b 1 -1/1" + "0" * 39, "3/4" + "0" * 78), ("at a 999", "0"))

    def test_numbers_that_are_none(self):
        desk = self.desk()
        for number in ("", "00", "01", "-1", "-0", "100", "000", "1.", "+1", "a", "1a", "(1)", "1/2", "1000000"):
            for row in ("size c a N", "every a N 1", "words N ()", "made N a ()"):
                self.no_row(desk, row.replace("N", number))
        for number in ("61", "62", "99"):
            self.no_row(desk, "every a " + number + " 1")
        for number in ("0", "6", "7", "10", "55"):
            self.no_row(desk, "words " + number + " ()")
            self.no_row(desk, "made " + number + " a ()")
        self.says(desk, ("size c a 99", "tables"), ("size c a 0", "tables"), ("every a 0 1", "0"), ("every a 60 1", "71980"),
                  ("words 1 ()", "right"), ("words 5 ()", "right"))

    def test_names_that_are_not_kept(self):
        desk = self.desk()
        for row, name in (("lead c d tables", "d"), ("turn c d", "d"), ("turn d d", "d"), ("plus c d e", "d"), ("plus c a e", "e"),
                          ("times c d e", "d"), ("times c b e", "e"), ("scale c d 1", "d"), ("size c d 1", "d"), ("drop d", "d"), ("show d", "d"),
                          ("at d 1", "d"), ("pair d e", "d"), ("pair a e", "e"), ("every d 1 1", "d"), ("one d a", "d"), ("one a d", "d"),
                          ("like d e ()", "d"), ("like b e ()", "e"), ("made 1 d ()", "d"), ("paper d e", "d"), ("paper a e", "e")):
            self.refused(desk, row, NoName, name)
        desk.say("drop a")
        self.refused(desk, "show a", NoName, "a")
        desk.say("undo")
        self.says(desk, ("show a", "tables 2.1:1"))

    def test_texts_that_write_nothing(self):
        desk = self.desk()
        for text, at in (("x", 0), ("shapes 1:0", 1), ("shapes 1:1 1:1", 2), ("shapes 2:2/4", 1), ("tables 1:1 x", 2), ("", 0),
                         ("powers 1:" + "9" * 401, 1), ("shapes 1000:1", 1)):
            self.refused(desk, "keep c " + text, NoText, at)
            self.refused(desk, "keep a " + text, NoText, at)
        for text, at in (("(", 1), ("(1  2)", 3), ("A", 0), ("-0", 1), ("()(", 2), ("", 0), ("(alike (", 8), ("1 2", 1), ("(" * 13, 12),
                         ("9" * 2001, 2000)):
            for row in ("like a b ", "words 3 ", "made 3 a "):
                self.refused(desk, row + text, NoText, at)

    def test_which_goes_first(self):
        desk = self.told_by("keep a shapes 6:1", "keep b shapes")
        # A row that is none, ahead of a name, ahead of a text, ahead of a size, ahead of figures.
        self.no_row(desk, "lead c d way")
        self.no_row(desk, "plus abcde d e")
        self.no_row(desk, "plus c d E")
        self.no_row(desk, "made 6 d (")
        self.no_row(desk, "every d 61 1")
        self.no_row(desk, "keep abcde x")
        self.no_row(desk, "like d E (")
        self.refused(desk, "like a d (", NoName, "d")
        self.refused(desk, "made 3 d (", NoName, "d")
        self.refused(desk, "like a b (", NoText, 1)
        self.refused(desk, "like a b ()", TooMany, "size")
        self.refused(desk, "like b a ()", TooMany, "size")
        self.refused(desk, "paper b a", TooMany, "size")
        great = "9" * 41
        self.refused(desk, "keep c shapes 1:" + great + " 7:2/4", NoText, 2)
        self.refused(desk, "keep c shapes 1:" + great + " 7:1", TooMany, "size")
        self.refused(desk, "keep c shapes 1:" + great + " 6:1", TooMany, "figures")
        self.refused(desk, "times c a a", TooMany, "size")

    def test_sizes(self):
        desk = self.desk()
        for shape in ("7", "4.3", "1.1.1.1.1.1.1", "999.999", "6.1"):
            self.refused(desk, "keep c tables " + shape + ":1", TooMany, "size")
            self.refused(desk, "keep a tables -:1 1:1 " + shape + ":1", TooMany, "size")
        self.says(desk, ("keep c tables 3.3:1", "tables 3.3:1"), ("keep d powers -:2", "powers -:2"), ("keep e shapes 4:1", "shapes 4:1"),
                  ("times f c d", "tables 3.3:2"), ("times f d c", shown("powers", led("tables", "powers", (((3, 3), (2, 1)),)))))
        for row in ("times f c a", "times f a c", "times f e a", "times f a e", "times f c c"):
            self.refused(desk, row, TooMany, "size")
        self.says(desk, ("times f e b", shown("shapes", times_sum("shapes", (((4,), (1, 1)),), (((2,), (3, 4)),)))))
        # Nought times anything is kept, and sums are of no greater size.
        self.says(desk, ("keep n choices", "choices"), ("times f n c", "choices"), ("times f c n", "tables"), ("plus f c c", "tables 3.3:2"))
        for row in ("like c a (alike ())", "like a c (alike ())", "paper c a", "paper a c"):
            self.refused(desk, row, TooMany, "size")
        self.says(desk, ("keep h tables 5:1", "tables 5:1"), ("like h h (alike ())", "alike"), ("paper h h", "(alike ())"))

    def test_figures(self):
        great, small = "9" * 40, "1" + "0" * 39
        desk = self.told_by("keep a powers 1:" + great, "keep b powers 1:1/" + great, "keep c powers 1:-" + great, "keep d powers 1:1/" + small)
        for text in (great + "0", "-" + great + "0", "1/" + great + "0", "1" + "0" * 40, "9" * 400, "1/" + "9" * 400):
            self.refused(desk, "keep e powers 1:" + text, TooMany, "figures")
            self.refused(desk, "keep a powers -:1 1:" + text + " 2:1", TooMany, "figures")
        for row in ("plus e a a", "plus a a a", "scale e a 2", "scale e c -2", "scale e b 1/2", "scale e a " + great, "times e a a",
                    "times e b b", "plus e b d", "scale e d 1/10"):
            self.refused(desk, row, TooMany, "figures")
        self.says(desk, ("plus e a c", "powers"), ("times e a b", "powers 1.1:1"), ("scale e a 1/" + great, "powers 1:1"),
                  ("scale e a -1", "powers 1:-" + great), ("scale e d 10", "powers 1:1/1" + "0" * 38))
        desk = self.told_by("keep a repeats 3:1/" + "9" * 40)
        self.refused(desk, "lead b a powers", TooMany, "figures")
        self.says(desk, ("lead b a tables", "tables 3:1/" + "9" * 40))

    def test_rows_of_many_signs(self):
        desk = self.told_by("keep a tables 2:1", "keep b repeats 2:1")
        nought = "(both 8 (" + " ".join(["(power 8)"] * 8) + ") (0 1))"
        rows = " ".join([nought] * 599)
        self.assertGreater(len(rows), 58000)
        self.says(desk, ("like a b (alike ((table (2) () (1 1)) " + rows + "))", "alike"),
                  ("like a b (alike ((table (2) () (1 1)) " + rows + " 0))", "wrong shape -1"))

    def test_what_is_told_is_the_same_later(self):
        rows = RIGHT_ROWS[:-1] + ["names", "undo", "show c", "undo", "names"]
        first, second = self.desk(), self.desk()
        same(self, [first.say(row) for row in rows], [second.say(row) for row in rows])


if __name__ == "__main__":
    unittest.main()
