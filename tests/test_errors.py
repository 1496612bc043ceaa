import unittest

from swapsums import errors
from swapsums.errors import LetterError, NoMade, NoName, NoPaper, NoRatio, NoRow, NoStay, NoText, TooMany

FIELDS = {
    NoRatio: (),
    NoText: ("at",),
    NoStay: ("letter",),
    NoPaper: ("word", "number"),
    TooMany: ("word",),
    NoMade: ("shape",),
    NoRow: ("row",),
    NoName: ("name",),
}
PLAIN = [None, True, 0, -7, 10 ** 39, "", "word", (), (1, (2, "a")), [], [[None], (True,)]]


class Unlooked:
    """Fails as soon as anything looks at it."""

    def looked(self, *told):
        raise AssertionError("looked at")

    __eq__ = __lt__ = __bool__ = __len__ = __iter__ = __str__ = __repr__ = __hash__ = __index__ = looked
    __getitem__ = __contains__ = __call__ = __int__ = __format__ = looked


class Errors(unittest.TestCase):
    def test_all_are_straight_under_the_base(self):
        self.assertEqual(LetterError.__bases__, (ValueError,))
        for refusal in FIELDS:
            self.assertEqual(refusal.__bases__, (LetterError,))

    def test_there_are_no_others(self):
        told = {thing for thing in vars(errors).values() if isinstance(thing, type)}
        self.assertEqual(told, set(FIELDS) | {LetterError})

    def test_each_keeps_the_very_fields(self):
        for refusal, names in FIELDS.items():
            for first in PLAIN:
                for second in PLAIN:
                    things = (first, second)[:len(names)]
                    made = refusal(*things)
                    for name, thing in zip(names, things):
                        self.assertIs(getattr(made, name), thing)

    def test_fields_are_only_those(self):
        for refusal, names in FIELDS.items():
            self.assertEqual(tuple(vars(refusal(*range(len(names))))), names)

    def test_no_field_is_looked_at(self):
        for refusal, names in FIELDS.items():
            things = [Unlooked() for name in names]
            made = refusal(*things)
            for name, thing in zip(names, things):
                self.assertIs(getattr(made, name), thing)

    def test_a_list_is_not_copied(self):
        row = [1]
        made = NoRow(row)
        row.append(2)
        self.assertEqual(made.row, [1, 2])

    def test_each_is_caught_by_itself_and_the_bases_alone(self):
        for refusal, names in FIELDS.items():
            made = refusal(*range(len(names)))
            for other in FIELDS:
                self.assertIs(isinstance(made, other), other is refusal)
            for base in (refusal, LetterError, ValueError):
                with self.assertRaises(base):
                    raise made

    def test_too_few_fields_make_none(self):
        for refusal, names in FIELDS.items():
            if names:
                with self.assertRaises(TypeError):
                    refusal()


if __name__ == "__main__":
    unittest.main()
