"""[17]: filters, values and rules written as words and read back."""

import unittest

from pageskips import errors
from pageskips.columns import Column
from pageskips.errors import InvalidFilter, InvalidRule, InvalidValue, InvalidWords
from pageskips.wishes import Wish
from pageskips.words import read_filter, read_rule, read_value, write_filter, write_rule, write_value
from tests.note_model import ALL_RULES, NO_RULES
from tests.refusals import RefusalTest
from tests.samples import BIG, FILTERS, NO_FILTERS, NO_TEXTS, TEXTS, deep
from tests.word_model import VOCABULARY, changed, chance_words, told_filter, told_place, told_rule

READERS = {"filter": read_filter, "value": read_value, "rule": read_rule}
MANY_LEVELS = [deep(("none",), 19, make) for make in (
    lambda inner: ("not", inner), lambda inner: ("and", (inner,)), lambda inner: ("or", (("say", True), inner)))]
LONG_FILTERS = [("among", ("a",) * 999), ("and", (("none",),) * 999), ("or", (("is", ""), ("say", False), ("is", "c")) * 333),
                ("or", (("and", (("is", "ab"), ("not", ("begins", "")))),) * 200)]
# What has to do with neither of the readers and writers.
OTHERS = [Wish(("is", "a")), Column(("many", 1, "lost"), 2), errors.InvalidWords(1)]


class WordsTest(RefusalTest):
    def check_place(self, what, words, place):
        """The reader refuses words at a place, as the model does."""
        with self.subTest(what=what, words=words[:60]):
            self.assertEqual(told_place(what, words), place)
            for call in (lambda: READERS[what](words), lambda: READERS[what](words=words)):
                with self.assertRaises(InvalidWords) as caught:
                    call()
                self.assertIs(type(caught.exception), InvalidWords)
                self.assertEqual(caught.exception.place, place)
                self.assertIs(type(caught.exception.place), int)

    def check_told(self, what, words):
        """The reader does as the model does."""
        place = told_place(what, words)
        if place is None:
            READERS[what](words)
        else:
            self.check_place(what, words, place)
        return place is None


class TestFilters(WordsTest):
    def test_each_form(self):
        for query, words in [
            (("is", "abc"), "is abc"), (("is", ""), "is -"), (("below", "b"), "below b"), (("above", ""), "above -"),
            (("begins", "ca"), "begins ca"), (("among", ()), "among 0"), (("among", ("",)), "among 1 -"),
            (("among", ("b", "", "b", "ac")), "among 4 b - b ac"), (("none",), "none"), (("say", True), "say yes"),
            (("say", False), "say no"), (("not", ("none",)), "not none"), (("not", ("is", "a")), "not is a"),
            (("and", ()), "and 0"), (("or", ()), "or 0"), (("and", (("none",),)), "and 1 none"),
            (("or", (("is", "a"), ("not", ("and", ())), ("say", True))), "or 3 is a not and 0 say yes"),
            (("and", (("or", (("is", ""), ("none",))), ("among", ("a", "b")))), "and 2 or 2 is - none among 2 a b"),
        ]:
            self.assertEqual(write_filter(query), words)
            self.assertEqual(write_filter(query=query), words)
            self.assertEqual(read_filter(words), query)
            self.assertEqual(repr(read_filter(words=words)), repr(query))

    def test_all_filters_are_read_back(self):
        for query in FILTERS + MANY_LEVELS + LONG_FILTERS:
            words = write_filter(query)
            self.assertIs(type(words), str)
            self.assertEqual(words, told_filter(query))
            self.assertEqual(repr(read_filter(words)), repr(query))
            self.assertIs(told_place("filter", words), None)

    def test_numbers(self):
        for many in (0, 1, 9, 10, 99, 100, 999):
            texts, queries = ("ab",) * many, (("is", "b"),) * many
            self.assertEqual(read_filter("among " + str(many) + " ab" * many), ("among", texts))
            self.assertEqual(read_filter("and " + str(many) + " is b" * many), ("and", queries))
            self.assertEqual(read_filter("or " + str(many) + " is b" * many), ("or", queries))
        for wrong in ("00", "01", "001", "0999", "1000", "1" * 30, "-1", "+1", "1.0", "a", "", "-", "1a", "a1", "1\n", "x",
                      "none", "is", "0x1", "1e1", "1_0"):
            for word in ("among", "and", "or"):
                self.check_place("filter", word + " " + wrong + " none" * 9, 1)
                self.check_place("filter", "not or 1 " + word + " " + wrong, 4)

    def test_texts_of_many_letters(self):
        for word in ("is", "below", "above", "begins", "among 1", "among 3 a a", "not is"):
            for letters in (1, 39, 40):
                words = word + " " + "c" * letters
                self.assertEqual(write_filter(read_filter(words)), words)
            for letters in (41, 42, 4000):
                self.check_place("filter", word + " " + "c" * letters, len(word.split(" ")))
        self.assertEqual(read_filter("is " + "abc" * 13 + "a"), ("is", "abc" * 13 + "a"))
        self.assertEqual(write_filter(("is", "c" * 41)), "is " + "c" * 41)
        self.assertEqual(write_filter(("among", ("c" * 4000, ""))), "among 2 " + "c" * 4000 + " -")

    def test_levels(self):
        for query in MANY_LEVELS:
            self.assertEqual(read_filter(write_filter(query)), query)
            for made in (("not", query), ("and", (query,)), ("or", (("say", False), query))):
                words = write_filter(made)
                self.assertEqual(words, told_filter(made))
                self.check_place("filter", words, told_place("filter", words))
        self.check_place("filter", "not " * 20 + "none", 20)
        self.check_place("filter", "not " * 20 + "x", 20)
        self.check_place("filter", "not " * 20 + "not " * 20 + "none", 20)
        self.check_place("filter", " ".join(["not"] * 20), 20)
        self.check_place("filter", "not " * 19 + "and 1 none", 21)
        self.check_place("filter", "not " * 19 + "and 1", 21)
        self.check_place("filter", "or 1 " * 20 + "none", 40)
        self.assertEqual(read_filter("not " * 19 + "and 0"), deep(("and", ()), 19, lambda inner: ("not", inner)))
        self.assertEqual(read_filter("not " * 19 + "among 1 a"),
                         deep(("among", ("a",)), 19, lambda inner: ("not", inner)))

    def test_thousands_of_words(self):
        self.check_place("filter", "and 999 " + " ".join(["none"] * 998), 1000)
        self.check_place("filter", "and 999 " + " ".join(["none"] * 1000), 1001)
        self.check_place("filter", "or 999 " + " ".join(["is a"] * 998 + ["is d", "is a"]), 2 + 2 * 998 + 1)
        self.check_place("filter", "among 999 " + " ".join(["a"] * 1500), 1001)
        self.check_place("filter", " ".join(["and 999"] * 800), 40)
        self.check_place("filter", "none " * 1599 + "none", 1)
        self.check_place("filter", "or 999 " * 19 + "none " * 1500 + "d", 2 * 19 + 1500)
        self.check_place("filter", " " * 8000, 0)

    def test_words_that_are_missing(self):
        for words in ("is", "below", "above", "begins", "among", "say", "not", "and", "or", "among 1", "and 1", "or 3",
                      "among 2 a", "or 2 none", "or 2 is", "or 2 is a", "and 1 not", "not not", "and 2 or 0", "or 1 among 1"):
            self.check_place("filter", words, len(words.split(" ")))

    def test_words_that_are_too_many(self):
        for words in ("none", "is a", "say yes", "not none", "among 0", "and 0", "or 1 none", "among 2 a b"):
            for more in (" ", " none", " a", "  ", " and", " |", " \n"):
                self.check_place("filter", words + more, len(words.split(" ")))

    def test_words_that_cannot_stand(self):
        for words, place in [
            ("", 0), (" ", 0), ("  ", 0), (" none", 0), (" is a", 0), ("is  a", 1), ("is a ", 2), ("none ", 1), ("Is a", 0),
            ("a", 0), ("-", 0), ("yes", 0), ("is none", 1), ("is d", 1), ("is A", 1), ("is a b", 2), ("is\na", 0),
            ("is a\n", 1), ("\nis a", 0), ("say", 1), ("say Yes", 1), ("say True", 1), ("say a", 1), ("say  yes", 1),
            ("among a", 1), ("among 1 none", 2), ("among 2 a d", 3), ("not", 1), ("not a", 1), ("and none", 1),
            ("and 2 none a", 3), ("or 1 or 1 or 1 x", 6), ("or 2 is a is", 5), ("or 2 is is a", 3), ("is --", 1),
            ("is a-", 1), ("0", 0), ("many 1 lost", 0), ("none none", 1), ("and 1 none none", 3), ("not  none", 1),
            ("is a | is b", 2), ("|", 0), ("nonE", 0), ("none\n", 0),
        ]:
            self.check_place("filter", words, place)

    def test_chance_words(self):
        strings = [told_filter(query) for query in FILTERS[::3] + MANY_LEVELS]
        read = 0
        for words in changed(strings, 4000, 71) + chance_words(2000, 72):
            read += self.check_told("filter", words)
        self.assertGreater(read, 100)
        for words in strings:
            for word in VOCABULARY[::7]:
                self.check_told("filter", words + " " + word)


class TestValues(WordsTest):
    def test_all_values(self):
        for value in TEXTS + ["abc" * 13 + "a"]:
            self.assertEqual(write_value(value), value or "-")
            self.assertEqual(read_value(value or "-"), value)
        self.assertEqual(write_value(None), "none")
        self.assertIs(read_value("none"), None)
        self.assertIs(read_value(words="none"), None)
        self.assertEqual(read_value(words="-"), "")
        self.assertEqual(write_value(value="c" * 8000), "c" * 8000)

    def test_words_that_cannot_stand(self):
        for words, place in [
            ("", 0), (" ", 0), ("a ", 1), (" a", 0), ("a b", 1), ("none a", 1), ("none none", 1), ("none ", 1), ("- -", 1),
            ("--", 0), ("-a", 0), ("a-", 0), ("None", 0), ("d", 0), ("ad", 0), ("A", 0), ("a\n", 0), ("\n", 0),
            ("c" * 41, 0), ("c" * 8000, 0), ("0", 0), ("?", 0), ("is a", 0), ("d a", 0), ("a" + " " * 99, 1), ("nonea", 0),
        ]:
            self.check_place("value", words, place)
        for words in VOCABULARY + chance_words(500, 73):
            self.check_told("value", words)


class TestRules(WordsTest):
    def test_all_rules(self):
        for rule in ALL_RULES:
            words = write_rule(rule)
            self.assertEqual(words, told_rule(rule))
            self.assertEqual(write_rule(rule=rule), words)
            self.assertEqual(repr(read_rule(words)), repr(rule))
            self.assertEqual(read_rule(words=words), rule)
        self.assertEqual(write_rule(("many", 1, ("cut", 6))), "many 1 cut 6")
        self.assertEqual(write_rule(("some", "lost", ("beyond", 0))), "some lost beyond 0")
        self.assertEqual(read_rule("hidden 0 lost"), ("hidden", 0, "lost"))

    def test_words_that_cannot_stand(self):
        for words, place in [
            ("", 0), ("many", 1), ("many ", 1), ("many 1", 2), ("many 1 cut", 3), ("many 1 beyond", 3), ("many lost", 2),
            ("many 1 lost 1", 3), ("many 1 cut 1 ", 4), ("many 1 cut 1 1", 4), ("many 1 lost ", 3), ("Many 1 lost", 0),
            ("lost 1 lost", 0), ("none 1 lost", 0), ("many 7 lost", 1), ("many 10 lost", 1), ("many 01 lost", 1),
            ("many 00 lost", 1), ("many -1 lost", 1), ("many cut lost", 1), ("many  1 lost", 1), ("many 1  lost", 2),
            ("many 1 cut 7", 3), ("many 1 cut 06", 3), ("many 1 cut lost", 3), ("many 1 cut  1", 3), ("many 1 1", 2),
            ("many 1 cut1", 2), (" many 1 lost", 0), ("some 6 beyond 60", 3), ("hidden lost lost lost", 3), ("many 1 6", 2),
            ("many 1 cut 1\n", 3), ("many\n1 lost", 0), ("many 999 lost", 1), ("some some", 1), ("many - lost", 1),
        ]:
            self.check_place("rule", words, place)

    def test_chance_words(self):
        strings = [told_rule(rule) for rule in ALL_RULES]
        read = sum([self.check_told("rule", words) for words in changed(strings, 3000, 74) + chance_words(300, 75)])
        self.assertGreater(read, 100)
        for words in strings[::19]:
            for word in VOCABULARY:
                for at in range(5):
                    parts = words.split(" ")
                    self.check_told("rule", " ".join(parts[:at] + [word] + parts[at + 1:]))


class TestErrors(WordsTest):
    def test_what_is_no_filter(self):
        for wrong in NO_FILTERS + BIG + TEXTS[:9] + OTHERS + [value for value in NO_TEXTS if value != ("is", "a")]:
            self.refused(InvalidFilter, write_filter, wrong)
            self.refused(InvalidFilter, write_filter, query=wrong)

    def test_what_is_no_value(self):
        for wrong in [value for value in NO_TEXTS if value is not None] + BIG + FILTERS[::9] + OTHERS:
            self.refused(InvalidValue, write_value, wrong)
            self.refused(InvalidValue, write_value, value=wrong)

    def test_what_is_no_rule(self):
        for wrong in NO_RULES + NO_TEXTS + BIG + TEXTS[:9] + OTHERS:
            self.refused(InvalidRule, write_rule, wrong)
            self.refused(InvalidRule, write_rule, rule=wrong)

    def test_filters_beyond_the_limits_are_written(self):
        for query in [deep(("is", "a"), 38, lambda inner: ("not", inner)), ("or", (("none",),) * 6000),
                      ("among", ("a", "b") * 4000), ("and", (("is", "c" * 4000),))]:
            self.assertEqual(write_filter(query), told_filter(query))


if __name__ == "__main__":
    unittest.main()
