"""[4], [11]: filters, and what each value answers to them."""

import unittest

from pageskips.errors import InvalidColumn, InvalidFilter, InvalidValue
from pageskips.filters import answer, is_filter, picked
from tests.samples import (BIG, FILTERS, NO_FILTERS, NO_TEXTS, SOME_FILTERS, TEXTS, VALUES, deep, told_answer,
                           wrapped)

NO_VALUES = [value for value in NO_TEXTS if value is not None] + BIG
NO_COLUMNS = [(), ("a",), ("a", None), None, "", "abc", 0, 1, True, False, 10 ** 30, ["d"], ["a", 1],
              [None, True], [["a"]], [("a",)], ["a", "b\n"], [[]], [None, ()], ("is", "a")]
NO_COLUMNS += [[value] for value in NO_VALUES] + [["a"] * 9000 + [None] + ["d"]]
NO_COLUMNS += [value for value in BIG if not (isinstance(value, list) and value == ["a"] * 19999)]


class TestIsFilter(unittest.TestCase):
    def test_filters(self):
        for query in FILTERS:
            with self.subTest(query=query):
                self.assertIs(is_filter(query), True)
                self.assertIs(is_filter(value=query), True)
                for whole in wrapped(query):
                    self.assertIs(is_filter(whole), True)

    def test_filters_beyond_the_limits(self):
        for query in (("is", "abc" * 2000), ("among", ("a", "b", "c") * 6000), ("or", (("none",),) * 9000),
                      deep(("none",), 39, lambda inner: ("not", inner)),
                      deep(("say", False), 19, lambda inner: ("and", (inner,)))):
            self.assertIs(is_filter(query), True)

    def test_nearly_filters_and_other_values(self):
        for value in NO_FILTERS:
            with self.subTest(value=value):
                self.assertIs(is_filter(value), False)
        for value in [value for value in NO_TEXTS if value != ("is", "a")] + BIG:
            with self.subTest(value=repr(value)[:60]):
                self.assertIs(is_filter(value), False)

    def test_the_kinds_of_numbers_count(self):
        self.assertIs(is_filter(("say", True)), True)
        self.assertIs(is_filter(("say", 1)), False)
        self.assertIs(is_filter(("not", ("say", 0))), False)

    def test_other_wrong_texts(self):
        for wrong in NO_TEXTS:
            for word in ("is", "below", "above", "begins"):
                self.assertIs(is_filter((word, wrong)), False)
            self.assertIs(is_filter(("among", ("a", wrong))), False)
            self.assertIs(is_filter(("among", (wrong, "a"))), False)


class TestAnswer(unittest.TestCase):
    def check(self, query, yes, no):
        for value in yes:
            self.assertEqual(answer(query, value), "yes", (query, value))
        for value in no:
            self.assertEqual(answer(query, value), "no", (query, value))

    def test_is(self):
        self.check(("is", "ab"), ["ab"], ["", "a", "aba", "abc", "b", "ba"])
        self.check(("is", ""), [""], ["a", "b", "c"])

    def test_below(self):
        self.check(("below", "b"), ["", "a", "accc"], ["b", "ba", "c"])
        self.check(("below", ""), [], ["", "a", "c"])

    def test_above(self):
        self.check(("above", "b"), ["ba", "bc", "c"], ["", "a", "ac", "b"])
        self.check(("above", ""), ["a", "c"], [""])

    def test_begins(self):
        self.check(("begins", "ab"), ["ab", "aba", "abcc"], ["", "a", "aab", "ac", "b", "bab"])
        self.check(("begins", ""), ["", "a", "ccc"], [])

    def test_among(self):
        self.check(("among", ("b", "ab", "", "b")), ["b", "ab", ""], ["a", "aba", "ba", "c"])
        self.check(("among", ()), [], ["", "a", "abc"])

    def test_none_and_say(self):
        self.check(("none",), [None], ["", "a", "abc"])
        self.check(("say", True), [None, "", "a"], [])
        self.check(("say", False), [], [None, "", "a"])

    def test_none_answers_open(self):
        for query in (("is", "a"), ("is", ""), ("below", "b"), ("above", ""), ("begins", ""), ("among", ()),
                      ("among", ("a", "b"))):
            self.assertEqual(answer(query, None), "open")
            self.assertEqual(answer(("not", query), None), "open")
            self.assertEqual(answer(("not", ("not", query)), None), "open")

    def test_not(self):
        self.check(("not", ("is", "a")), ["", "b"], ["a"])
        self.check(("not", ("none",)), ["", "a"], [None])
        self.check(("not", ("say", True)), [], [None, "a"])
        self.check(("not", ("say", False)), [None, "a"], [])

    def test_and_and_or_without_filters(self):
        self.check(("and", ()), [None, "", "a"], [])
        self.check(("or", ()), [], [None, "", "a"])

    def test_and_and_or_of_two(self):
        answers = {"yes": ("say", True), "no": ("say", False), "open": ("among", ())}
        for one, told in answers.items():
            for other, other_told in answers.items():
                both = {one, other}
                least = "no" if "no" in both else "open" if "open" in both else "yes"
                most = "yes" if "yes" in both else "open" if "open" in both else "no"
                self.assertEqual(answer(("and", (told, other_told)), None), least)
                self.assertEqual(answer(("or", (told, other_told)), None), most)
        self.check(("and", (("above", "a"), ("below", "b"))), ["aa", "accc"], ["", "a", "b", "c"])
        self.check(("or", (("is", "a"), ("begins", "b"))), ["a", "b", "bc"], ["", "aa", "c"])

    def test_and_and_or_of_many(self):
        many = ("is", "a"), ("none",), ("say", True), ("say", False)
        self.check(("or", many), [None, "a", "b"], [])
        self.check(("and", many), [], [None, "a", "b"])
        self.assertEqual(answer(("or", many[:1] + many[3:]), None), "open")
        self.assertEqual(answer(("and", many[:3]), None), "open")
        self.assertEqual(answer(("and", many[:2] + many[:1]), None), "open")

    def test_each_filter_as_the_document_says(self):
        for query in FILTERS:
            for value in VALUES[:1] + VALUES[1::5] + ["", "a", "b", "c", "ac", "bca", "bcaa"]:
                self.assertEqual(answer(query, value), told_answer(query, value), (query, value))

    def test_each_value_as_the_document_says(self):
        for query in SOME_FILTERS:
            for value in VALUES:
                self.assertEqual(answer(query, value), told_answer(query, value), (query, value))

    def test_by_name(self):
        self.assertEqual(answer(value="b", query=("is", "a")), "no")
        self.assertEqual(answer(query=("is", "a"), value="a"), "yes")

    def test_long_texts_and_deep_filters(self):
        self.assertEqual(answer(("begins", "ab" * 4000), "ab" * 4000), "yes")
        self.assertEqual(answer(("above", "c" * 7999), "c" * 8000), "yes")
        self.assertEqual(answer(deep(("is", "a"), 39, lambda inner: ("not", inner)), "a"), "no")
        self.assertEqual(answer(deep(("is", "a"), 19, lambda inner: ("or", (inner,))), "a"), "yes")


class TestPicked(unittest.TestCase):
    def test_ordinary_columns(self):
        column = ["a", None, "b", "", "a", None, "ab"]
        for query, told in [
            (("is", "a"), [0, 4]), (("none",), [1, 5]), (("not", ("is", "a")), [2, 3, 6]),
            (("say", True), [0, 1, 2, 3, 4, 5, 6]), (("say", False), []), (("begins", "a"), [0, 4, 6]),
            (("or", (("none",), ("is", ""))), [1, 3, 5]), (("among", ()), []), (("and", ()), list(range(7))),
        ]:
            self.assertEqual(picked(query, column), told)
            self.assertEqual(picked(column=column, query=query), told)
        self.assertEqual(column, ["a", None, "b", "", "a", None, "ab"])

    def test_the_empty_column(self):
        self.assertEqual(picked(("say", True), []), [])

    def test_it_is_as_the_values_answer(self):
        for query in FILTERS:
            told = [at for at, value in enumerate(VALUES) if told_answer(query, value) == "yes"]
            self.assertEqual(picked(query, VALUES), told)

    def test_long_columns(self):
        self.assertEqual(picked(("is", "b"), ["a", "b", None, "c"] * 4000), list(range(1, 16000, 4)))

    def test_returned_lists_are_new(self):
        column = ["a", "b"]
        indexes = picked(("say", True), column)
        indexes.append(9)
        self.assertEqual(column, ["a", "b"])
        self.assertEqual(picked(("say", True), column), [0, 1])
        empty = picked(("say", False), column)
        empty.append(9)
        self.assertEqual(picked(("say", False), column), [])
        column.append("c")
        self.assertEqual(indexes, [0, 1, 9])


class TestErrors(unittest.TestCase):
    def refused(self, error, function, *values, **named):
        with self.assertRaises(error) as caught:
            function(*values, **named)
        self.assertIs(type(caught.exception), error)

    def test_what_is_no_filter(self):
        for value in NO_FILTERS + [value for value in NO_TEXTS if value != ("is", "a")] + BIG:
            with self.subTest(value=repr(value)[:60]):
                self.refused(InvalidFilter, answer, value, "a")
                self.refused(InvalidFilter, answer, value=None, query=value)
                self.refused(InvalidFilter, picked, value, [])
                self.refused(InvalidFilter, picked, column=["a"], query=value)

    def test_what_is_no_value(self):
        for value in NO_VALUES:
            for query in (("is", "a"), ("none",), ("say", True), ("and", ())):
                self.refused(InvalidValue, answer, query, value)
                self.refused(InvalidValue, answer, value=value, query=query)

    def test_what_is_no_column(self):
        for value in NO_COLUMNS:
            with self.subTest(value=repr(value)[:60]):
                for query in (("is", "a"), ("say", False)):
                    self.refused(InvalidColumn, picked, query, value)
                    self.refused(InvalidColumn, picked, column=value, query=query)

    def test_the_first_wrong_argument_counts(self):
        for query in ((), ("is", "d"), None, ["none"]):
            self.refused(InvalidFilter, answer, query, 1)
            self.refused(InvalidFilter, answer, value=1, query=query)
            self.refused(InvalidFilter, picked, query, ())
            self.refused(InvalidFilter, picked, column=(), query=query)

    def test_a_refused_column_stays_as_it_was(self):
        column = ["a", None, 1, "b"]
        self.refused(InvalidColumn, picked, ("none",), column)
        self.assertEqual(column, ["a", None, 1, "b"])


class TestTexts(unittest.TestCase):
    def test_texts_of_the_tests_are_ascending(self):
        self.assertEqual(TEXTS, sorted(set(TEXTS)))
        self.assertEqual(len(TEXTS), 121)


if __name__ == "__main__":
    unittest.main()
