"""[3], [10]: texts, and what stands behind and beyond them."""

import unittest

from pageskips.errors import InvalidText
from pageskips.spans import behind, beyond, is_text
from tests.samples import BIG, NO_TEXTS, TEXTS, texts_up_to

LONG = ["abc" * 2666, "a" * 8000, "c" * 8000, "b" * 7999 + "c", "a" * 13]


class TestIsText(unittest.TestCase):
    def test_texts(self):
        for text in TEXTS + LONG:
            self.assertIs(is_text(text), True)
            self.assertIs(is_text(value=text), True)

    def test_other_values(self):
        for value in NO_TEXTS + BIG:
            with self.subTest(value=repr(value)[:60]):
                self.assertIs(is_text(value), False)

    def test_one_wrong_letter_at_each_place(self):
        for wrong in ("d", "A", "\n", " ", "`", "1"):
            for at in range(7):
                self.assertIs(is_text("abccba"[:at] + wrong + "abccba"[at:]), False)


class TestBehind(unittest.TestCase):
    def test_ordinary_texts(self):
        for text, told in (("", "a"), ("a", "aa"), ("b", "ba"), ("cc", "cca"), ("abc", "abca")):
            self.assertEqual(behind(text), told)
            self.assertEqual(behind(text=text), told)

    def test_it_is_the_next_text(self):
        texts = texts_up_to(5)
        for text in TEXTS:
            self.assertEqual(texts[texts.index(text) + 1], behind(text))

    def test_long_texts(self):
        for text in LONG:
            self.assertEqual(behind(text), text + "a")


class TestBeyond(unittest.TestCase):
    def test_ordinary_texts(self):
        for text, told in (("a", "b"), ("b", "c"), ("aa", "ab"), ("ab", "ac"), ("ba", "bb"), ("abab", "abac"),
                           ("ca", "cb"), ("caca", "cacb")):
            self.assertEqual(beyond(text), told)
            self.assertEqual(beyond(text=text), told)

    def test_letters_c_at_the_end(self):
        for text, told in (("ac", "b"), ("bc", "c"), ("acc", "b"), ("abc", "ac"), ("abccc", "ac"),
                           ("cbc", "cc"), ("cac", "cb"), ("acac", "acb")):
            self.assertEqual(beyond(text), told)

    def test_nothing_is_beyond_letters_c_alone_or_the_empty_text(self):
        for text in ("", "c", "cc", "ccc", "c" * 8000):
            self.assertIs(beyond(text), None)

    def test_it_is_the_least_text_that_is_greater_than_all_that_begin_so(self):
        texts = texts_up_to(5)
        for text in TEXTS:
            last = [other for other in texts if other.startswith(text)][-1]
            greater = texts[texts.index(last) + 1:]
            self.assertEqual(beyond(text), greater[0] if greater else None)

    def test_long_texts(self):
        self.assertEqual(beyond("a" * 8000), "a" * 7999 + "b")
        self.assertEqual(beyond("b" + "c" * 7999), "c")
        self.assertEqual(beyond("a" + "c" * 3000 + "b"), "a" + "c" * 3001)


class TestErrors(unittest.TestCase):
    def test_what_is_no_text(self):
        for function in (behind, beyond):
            for value in NO_TEXTS + BIG:
                with self.subTest(value=repr(value)[:60]):
                    with self.assertRaises(InvalidText) as caught:
                        function(value)
                    self.assertIs(type(caught.exception), InvalidText)
                    with self.assertRaises(InvalidText):
                        function(text=value)


if __name__ == "__main__":
    unittest.main()
