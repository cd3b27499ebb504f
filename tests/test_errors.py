"""The errors: their bases, their fields, what they may be made of."""

import copy
import unittest

from tests.samples import odd_things
from towerline import errors

FIELDS = {
    "BadTask": (ValueError, "part"),
    "BadPaper": (ValueError, "part"),
    "BadText": (ValueError, "line"),
    "BadAlphabet": (ValueError, "part"),
    "BadBook": (ValueError, "number"),
    "BadRoad": (ValueError, "number"),
    "TooGreat": (OverflowError, "most"),
}
TEXTS = {"OutOfPlace": ValueError, "Nothing": LookupError}
BASES = {**{name: base for name, (base, _) in FIELDS.items()}, **TEXTS}


class Errors(unittest.TestCase):
    def test_each_stands_straight_under_its_base(self):
        for name, base in BASES.items():
            with self.subTest(name):
                made = getattr(errors, name)
                self.assertEqual(made.__bases__, (base,))
                self.assertEqual(made.__module__, "towerline.errors")
                self.assertEqual(made.__name__, name)

    def test_none_is_a_subclass_of_another(self):
        for one in BASES:
            for other in BASES:
                if one != other:
                    self.assertFalse(issubclass(getattr(errors, one), getattr(errors, other)), (one, other))

    def test_fields_keep_any_thing_by_position_and_by_name(self):
        for name, (_, field) in FIELDS.items():
            made = getattr(errors, name)
            for thing in odd_things() + ["form", 7, 0, (), 10 ** 6000]:
                self.assertIs(getattr(made(thing), field), thing)
                self.assertIs(getattr(made(**{field: thing}), field), thing)

    def test_texts_may_be_any_thing_by_position_and_by_name(self):
        for name in TEXTS:
            made = getattr(errors, name)
            for thing in odd_things() + ["form", 7, 0, (), 10 ** 6000]:
                self.assertIsInstance(made(thing), made)
                self.assertIsInstance(made(text=thing), made)

    def test_one_argument_is_wanted(self):
        for name in BASES:
            made = getattr(errors, name)
            self.assertRaises(TypeError, made)
            self.assertRaises(TypeError, made, 1, 2)

    def test_they_can_be_raised_and_caught_by_their_bases(self):
        for name, base in BASES.items():
            made = getattr(errors, name)
            with self.assertRaises(base) as caught:
                raise made("word")
            self.assertIs(type(caught.exception), made)

    def test_a_copy_has_the_same_field(self):
        for name, (_, field) in FIELDS.items():
            made = getattr(errors, name)
            self.assertEqual(getattr(copy.copy(made(5)), field), 5)
            self.assertEqual(getattr(copy.copy(made(**{field: 5})), field), 5)

    def test_the_text_is_shown(self):
        for name in TEXTS:
            self.assertEqual(str(getattr(errors, name)("some words")), "some words")
            self.assertEqual(str(getattr(errors, name)(text="some words")), "some words")


if __name__ == "__main__":
    unittest.main()
