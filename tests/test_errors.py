"""[9]: the errors."""

import unittest

from pageskips import errors

NAMES = ["InvalidText", "InvalidValue", "InvalidSpan", "InvalidFilter", "InvalidRule", "InvalidPage",
         "InvalidNote", "InvalidColumn", "InvalidIndex", "InvalidNumber", "InvalidCode", "NoBlock",
         "NothingToUndo", "Full", "InvalidCommand"]


class TestErrors(unittest.TestCase):
    def test_skip_error_is_directly_under_value_error(self):
        self.assertEqual(errors.SkipError.__bases__, (ValueError,))

    def test_each_error_is_directly_under_skip_error(self):
        for name in NAMES + ["InvalidWords"]:
            with self.subTest(name=name):
                self.assertEqual(getattr(errors, name).__bases__, (errors.SkipError,))
                self.assertEqual(getattr(errors, name).__name__, name)
                self.assertEqual(getattr(errors, name).__module__, "pageskips.errors")

    def test_no_error_is_under_another_one(self):
        for name in NAMES + ["InvalidWords"]:
            for other in NAMES + ["InvalidWords"]:
                if name != other:
                    self.assertFalse(issubclass(getattr(errors, name), getattr(errors, other)))

    def test_each_error_is_made_with_one_string(self):
        for name in NAMES + ["SkipError"]:
            with self.subTest(name=name):
                self.assertEqual(str(getattr(errors, name)("what is wrong")), "what is wrong")

    def test_each_error_is_caught_as_skip_error_and_as_value_error(self):
        for name in NAMES:
            for caught in (getattr(errors, name), errors.SkipError, ValueError):
                with self.assertRaises(caught):
                    raise getattr(errors, name)("a")

    def test_invalid_words_keeps_its_place(self):
        for place in (0, 1, 7, 400):
            self.assertEqual(errors.InvalidWords(place).place, place)
            self.assertEqual(errors.InvalidWords(place=place).place, place)
        with self.assertRaises(errors.SkipError) as caught:
            raise errors.InvalidWords(3)
        self.assertEqual(caught.exception.place, 3)
        self.assertIs(type(caught.exception.place), int)

    def test_invalid_words_keep_their_places_apart(self):
        one, other = errors.InvalidWords(1), errors.InvalidWords(2)
        self.assertEqual((one.place, other.place), (1, 2))


if __name__ == "__main__":
    unittest.main()
