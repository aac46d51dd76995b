"""The error classes of tallgrass/base/errors.py, and names and numbers (points 3 and 13)."""

import unittest

from helpers import FIELDS, GrassCase
from tallgrass.base import errors
from tallgrass.base.words import NO_NUMBER, is_name, number_of, words_of


class Errors(GrassCase):
    def test_sixteen_classes(self):
        own = [value for value in vars(errors).values() if isinstance(value, type)]
        self.assertEqual(len(own), 17)
        self.assertEqual(set(own), set(FIELDS) | {errors.GrassError})
        self.assertEqual(errors.GrassError.__bases__, (ValueError,))

    def test_each_derives_directly(self):
        for error in FIELDS:
            self.assertEqual(error.__bases__, (errors.GrassError,))

    def test_fields(self):
        for error, field in FIELDS.items():
            if field is None:
                error()
            else:
                thing = ("some", "thing")
                self.assertIs(getattr(error(thing), field), thing)
                self.assertIs(getattr(error(**{field: thing}), field), thing)


class Words(unittest.TestCase):
    def test_names(self):
        for word in ("a", "z", "k7", "p012", "a000", "b99"):
            self.assertTrue(is_name(word), word)

    def test_no_names(self):
        for word in ("", "A", "7", "ab", "a1b", "p0123", "a ", " a", "a\n", "_", "a-1", "\u00e9", "a\u0661",
                     "\uff41", "paths", 7, None, ("a",)):
            self.assertFalse(is_name(word), repr(word))

    def test_order_of_names(self):
        self.assertEqual(sorted(["b", "a2", "a10", "a1"]), ["a1", "a10", "a2", "b"])

    def test_numbers(self):
        for word, number in (("0", 0), ("7", 7), ("10", 10), ("900", 900), ("999", 999)):
            self.assertEqual(number_of(word), number)

    def test_no_numbers(self):
        for word in ("", "-1", "+1", "01", "00", "000", "1000", "9" * 5000, "0" * 5000, "1_0", "1.0", "a",
                     " 1", "1 ", "1\n", "\u0661", "\u00b2"):
            self.assertEqual(number_of(word), NO_NUMBER, word[:9])

    def test_words(self):
        self.assertEqual(words_of("go 1 r"), ["go", "1", "r"])
        for line in ("", " ", " go", "go ", "go  1"):
            self.assertEqual(words_of(line), [])


if __name__ == "__main__":
    unittest.main()
