"""The interface: each name in its module, with its arguments by place."""

import importlib
import inspect
import pathlib
import re
import unittest

from swapsums.desk import Desk

INTERFACE = {
    "ratios": "is_ratio(thing) ratio(top, bottom) plus(one, other) minus(one, other) times(one, other) over(one, other) "
              "is_less(one, other) power(one, n)",
    "shapes": "is_shape(thing) size_of(shape) columns(shape) often(shape) weight(shape) shapes_of(n) is_within(inner, outer)",
    "orders": "is_above(one, other) meeting(one, other) joining(one, other) beneath(shape)",
    "sums": "is_way(thing) is_sum(thing) is_telling(thing) sum_of(pairs) added(one, other) scaled(number, some) of_size(some, n) "
            "number_at(some, shape)",
    "sumtexts": "shown(way, some) read(text)",
    "letters": "is_poly(n, thing) poly_of(n, pairs) poly_added(one, other) poly_times(one, other) poly_scaled(number, poly) "
               "value_of(poly, values) exchanged(poly, order) stays(n, poly)",
    "meaning": "meant(way, some, n) shapes_by(n, poly)",
    "tables": "is_skew(thing) is_table(skew, n, thing) tables_of(skew, n) content_of(n, table)",
    "strips": "row_strips(shape, k) column_strips(shape, k) counted(skew, content)",
    "leading": "in_shapes(way, shape) led(way, other, some) are_one(one, other)",
    "latticed": "is_latticed(word) word_of(table) latticed(skew, content)",
    "products": "times_sum(way, one, other)",
    "turning": "turned_sum(way, some)",
    "pairing": "paired(one, other) mate(way, shape) number_by(way, telling, shape)",
    "putin": "lifted(k, some) put_in(outer, inner) put_telling(outer, inner, way)",
    "splitting": "split_in_two(way, some) laid_as_one(way, triples)",
    "skews": "skew_sum(skew) taken_off(one, other)",
    "values": "told_at(telling, values) all_alike(telling, n, value)",
    "hooks": "hooks(shape) tables_many(shape, n) rising_many(shape)",
    "turnings": "are_turnings(n, thing) turnings_sum(n, turnings) around_turnings(n)",
    "beads": "classes_of(n, turnings, content) classes_many(n, turnings, content) colours_many(n, turnings, k)",
    "words": "is_word(n, thing) unpaired_at(i, word) up_at(i, word) down_at(i, word) swapped_at(i, word) head_of(n, word)",
    "headchecker": "lets_words(n, thing) contents_of(n, paper) heads_of(n, paper) lets_made(n, some, thing)",
    "headpapers": "words_of(n, some) made_paper(n, some) product_paper(n, one, other)",
    "formal": "is_factor(thing) is_formal(thing) formal_of(telling) formal_added(one, other) formal_times(one, other) "
              "formal_meant(n, formal)",
    "rules": "is_rule(word, thing) rule_sum(word, thing)",
    "likechecker": "lets_like(one, other, thing)",
    "likeness": "like_paper(one, other)",
    "things": "shown_thing(thing) read_thing(text)",
}


class Interface(unittest.TestCase):
    def test_functions(self):
        for module, listed in INTERFACE.items():
            for name, arguments in re.findall(r"(\w+)\(([^)]*)\)", listed):
                function = getattr(importlib.import_module("swapsums." + module), name)
                told = inspect.signature(function).parameters.values()
                self.assertEqual([one.name for one in told], arguments.split(", "), (module, name))
                self.assertEqual({one.kind for one in told}, {inspect.Parameter.POSITIONAL_OR_KEYWORD})

    def test_desk(self):
        self.assertIn("say", vars(Desk))
        self.assertEqual(list(inspect.signature(Desk).parameters), [])
        self.assertEqual(list(inspect.signature(Desk.say).parameters), ["self", "row"])

    def test_there_are_no_other_modules(self):
        package = pathlib.Path(__file__).resolve().parent.parent / "swapsums"
        names = {path.stem for path in package.glob("*.py")}
        self.assertEqual(names, set(INTERFACE) | {"__init__", "errors", "desk", "plain"})


if __name__ == "__main__":
    unittest.main()
