"""[8], [11]: the normal form of filters, and what it tells of two of them."""

import itertools
import unittest

from pageskips.errors import InvalidFilter, InvalidSpan, InvalidValue
from pageskips.filters import alike, answer, filter_of, is_filter, parting, picked, selection, within
from pageskips.spans import has, is_span, opposite, span_of
from tests.samples import (BIG, FILTERS, FULL, NO_FILTERS, NO_SPANS, NO_TEXTS, SHORT, SOME_FILTERS, TEXTS, VALUES,
                           WORDS, all_ranges, deep, in_ranges, told_answer)

PAIRS = list(itertools.product(SOME_FILTERS, SOME_FILTERS))
SINGLE = [("a" * at + "b", "a" * at + "ba") for at in range(1200)]


def spans_of_ranges():
    """Spans of one, two and three ranges, and what they leave."""
    ranges = all_ranges(SHORT)
    told = [span_of([part]) for part in ranges]
    told += [span_of([one, other]) for one, other in zip(ranges, ranges[17:])]
    told += [span_of(list(parts)) for parts in zip(ranges[::-1], ranges[31:], ranges[7:])]
    return [(), FULL] + told + [opposite(span) for span in told]


SPANS = spans_of_ranges()


def told_parting(one, other):
    """The least of the values of the tests that passes just one of two filters."""
    for value in VALUES:
        if (told_answer(one, value) == "yes") != (told_answer(other, value) == "yes"):
            return (value,)
    return ()


class TestSelection(unittest.TestCase):
    def test_ordinary_filters(self):
        for query, told in [
            (("is", "b"), ("open", (("b", "ba"),))),
            (("is", ""), ("open", (("", "a"),))),
            (("below", "b"), ("open", (("", "b"),))),
            (("below", ""), ("open", ())),
            (("above", "b"), ("open", (("ba", None),))),
            (("above", ""), ("open", (("a", None),))),
            (("begins", "ab"), ("open", (("ab", "ac"),))),
            (("begins", "ac"), ("open", (("ac", "b"),))),
            (("begins", "cc"), ("open", (("cc", None),))),
            (("begins", ""), ("open", FULL)),
            (("among", ()), ("open", ())),
            (("among", ("b", "a", "b", "aa")), ("open", (("a", "aaa"), ("b", "ba")))),
            (("none",), ("yes", ())),
            (("say", True), ("yes", FULL)),
            (("say", False), ("no", ())),
            (("not", ("is", "a")), ("open", (("", "a"), ("aa", None)))),
            (("not", ("none",)), ("no", FULL)),
            (("and", ()), ("yes", FULL)),
            (("or", ()), ("no", ())),
            (("and", (("above", "a"), ("below", "b"))), ("open", (("aa", "b"),))),
            (("and", (("none",), ("is", "a"))), ("open", ())),
            (("or", (("none",), ("is", "a"), ("begins", "b"))), ("yes", (("a", "aa"), ("b", "c")))),
            (("or", (("begins", "a"), ("begins", "b"))), ("open", (("a", "c"),))),
        ]:
            with self.subTest(query=query):
                self.assertEqual(selection(query), told)
                self.assertEqual(selection(query=query), told)

    def test_it_is_what_the_values_answer(self):
        for query in FILTERS:
            told = selection(query)
            self.assertIs(type(told), tuple)
            lacking, span = told
            self.assertEqual(lacking, told_answer(query, None))
            self.assertIs(is_span(span), True)
            for text in TEXTS:
                self.assertEqual(in_ranges(span, text), told_answer(query, text) == "yes", (query, text))

    def test_it_goes_with_answer_and_has(self):
        for query in SOME_FILTERS:
            lacking, span = selection(query)
            self.assertEqual(lacking, answer(query, None))
            for text in TEXTS[::3]:
                self.assertEqual(answer(query, text), "yes" if has(span, text) else "no")

    def test_filters_beyond_the_limits(self):
        among = ("among", tuple(first for first, end in SINGLE))
        each = ("or", tuple(("is", first) for first, end in SINGLE))
        none = ("and", tuple(("not", ("is", first)) for first, end in SINGLE))
        self.assertEqual(selection(among), ("open", tuple(sorted(SINGLE))))
        self.assertIs(alike(among, each), True)
        self.assertIs(alike(("not", none), each), True)
        self.assertEqual(selection(deep(("is", "a"), 39, lambda inner: ("not", inner)))[1], opposite((("a", "aa"),)))


class TestAlike(unittest.TestCase):
    def test_ordinary_filters(self):
        for one, other, told in [
            (("is", "a"), ("among", ("a", "a")), True),
            (("is", "a"), ("is", "b"), False),
            (("is", "a"), ("and", (("begins", "a"), ("below", "aa"))), True),
            (("not", ("is", "a")), ("or", (("below", "a"), ("above", "a"))), True),
            (("above", ""), ("not", ("is", "")), True),
            (("begins", "cc"), ("not", ("below", "cc")), True),
            (("begins", "cb"), ("not", ("below", "cb")), False),
            (("begins", "a"), ("and", (("not", ("below", "a")), ("below", "b"))), True),
            (("say", True), ("not", ("say", False)), True),
            (("say", True), ("begins", ""), False),
            (("say", False), ("among", ()), False),
            (("say", False), ("or", ()), True),
            (("among", ()), ("or", ()), False),
            (("and", ()), ("or", ()), False),
            (("none",), ("and", (("none",), ("say", True))), True),
            (("none",), ("say", False), False),
            (("none",), ("among", ()), False),
        ]:
            with self.subTest(one=one, other=other):
                self.assertIs(alike(one, other), told)
                self.assertIs(alike(other, one), told)
                self.assertIs(alike(other=one, one=other), told)

    def test_it_is_as_all_values_answer(self):
        for one, other in PAIRS:
            told = all(told_answer(one, value) == told_answer(other, value) for value in VALUES)
            self.assertIs(alike(one, other), told, (one, other))

    def test_it_is_as_the_selections_are(self):
        for one, other in PAIRS:
            self.assertIs(alike(one, other), selection(one) == selection(other))


class TestParting(unittest.TestCase):
    def test_ordinary_filters(self):
        for one, other, told in [
            (("is", "a"), ("is", "a"), ()),
            (("is", "b"), ("is", "a"), ("a",)),
            (("is", "a"), ("is", "b"), ("a",)),
            (("below", "b"), ("below", "ba"), ("b",)),
            (("begins", "a"), ("is", "a"), ("aa",)),
            (("begins", "cc"), ("above", "cb"), ("cba",)),
            (("say", True), ("among", ()), (None,)),
            (("say", True), ("begins", ""), (None,)),
            (("none",), ("is", ""), (None,)),
            (("none",), ("say", True), ("",)),
            (("not", ("none",)), ("begins", ""), ()),
            (("above", "cccc"), ("above", "ccccc"), ("cccca",)),
        ]:
            with self.subTest(one=one, other=other):
                self.assertEqual(parting(one, other), told)
                self.assertEqual(parting(other, one), told)
                self.assertEqual(parting(other=one, one=other), told)

    def test_filters_that_none_alone_parts(self):
        for one, other in [(("none",), ("say", False)), (("none",), ("among", ())), (("none",), ("or", ())),
                           (("say", True), ("not", ("none",))), (("and", ()), ("begins", ""))]:
            self.assertEqual(parting(one, other), (None,))
            self.assertEqual(parting(other, one), (None,))
            self.assertIs(alike(one, other), False)

    def test_none_answers_no_to_one_and_open_to_the_other(self):
        for one, other in [(("say", False), ("among", ())), (("or", ()), ("below", "")),
                           (("not", ("none",)), ("begins", "")),
                           (("and", (("not", ("none",)), ("is", "a"))), ("is", "a"))]:
            self.assertEqual(parting(one, other), ())
            self.assertEqual(parting(other, one), ())
            self.assertIs(alike(one, other), False)

    def test_none_passes_neither_and_a_text_parts(self):
        self.assertEqual(parting(("not", ("none",)), ("above", "")), ("",))
        self.assertEqual(parting(("and", (("not", ("none",)), ("is", "b"))), ("is", "c")), ("b",))

    def test_it_is_the_least_value(self):
        for one, other in PAIRS:
            self.assertEqual(parting(one, other), told_parting(one, other), (one, other))

    def test_it_passes_just_one(self):
        for one, other in PAIRS[::3]:
            told = parting(one, other)
            if told == ():
                self.assertEqual(selection(one)[1], selection(other)[1])
            else:
                passing = [answer(query, told[0]) == "yes" for query in (one, other)]
                self.assertEqual(sorted(passing), [False, True])
                self.assertIs(alike(one, other), False)


class TestWithin(unittest.TestCase):
    def test_ordinary_filters(self):
        for one, other, told in [
            (("is", "a"), ("begins", "a"), True),
            (("begins", "a"), ("is", "a"), False),
            (("is", "a"), ("is", "a"), True),
            (("is", "a"), ("is", "b"), False),
            (("say", False), ("is", "a"), True),
            (("is", "a"), ("say", True), True),
            (("say", True), ("begins", ""), False),
            (("begins", ""), ("say", True), True),
            (("none",), ("is", "a"), False),
            (("none",), ("among", ()), False),
            (("none",), ("say", True), True),
            (("is", "a"), ("none",), False),
            (("among", ()), ("say", False), True),
            (("say", False), ("among", ()), True),
            (("not", ("none",)), ("begins", ""), True),
            (("begins", "a"), ("below", "b"), True),
            (("begins", "b"), ("below", "b"), False),
        ]:
            with self.subTest(one=one, other=other):
                self.assertIs(within(one, other), told)
                self.assertIs(within(other=other, one=one), told)

    def test_it_is_as_all_values_answer(self):
        for one, other in PAIRS:
            told = all(told_answer(other, value) == "yes" for value in VALUES if told_answer(one, value) == "yes")
            self.assertIs(within(one, other), told, (one, other))

    def test_it_goes_with_parting(self):
        for one, other in PAIRS:
            both = within(one, other) and within(other, one)
            self.assertIs(both, parting(one, other) == ())


class TestFilterOf(unittest.TestCase):
    def test_it_is_the_opposite_of_selection(self):
        for span in SPANS:
            for lacking in WORDS:
                query = filter_of(lacking, span)
                self.assertIs(is_filter(query), True)
                self.assertEqual(selection(query), (lacking, span))
                self.assertEqual(selection(filter_of(span=span, lacking=lacking)), (lacking, span))

    def test_the_values_answer_as_they_should(self):
        for span in SPANS[::5]:
            for lacking in WORDS:
                query = filter_of(lacking, span)
                self.assertEqual(told_answer(query, None), lacking)
                for text in TEXTS:
                    self.assertEqual(told_answer(query, text), "yes" if in_ranges(span, text) else "no")

    def test_each_filter_is_alike_to_that_of_its_selection(self):
        for query in FILTERS:
            self.assertIs(alike(filter_of(*selection(query)), query), True)

    def test_equal_calls_have_equal_answers(self):
        for span in SPANS[::5]:
            for lacking in WORDS:
                self.assertEqual(filter_of(lacking, span), filter_of(lacking, tuple(list(span))))

    def test_spans_at_and_beyond_the_limit(self):
        for many in (8, 9, 1200):
            span = span_of(SINGLE[:many])
            for lacking in WORDS:
                self.assertEqual(selection(filter_of(lacking, span)), (lacking, span))
                self.assertEqual(selection(filter_of(lacking, opposite(span))), (lacking, opposite(span)))


class TestPickedGoesWithSelection(unittest.TestCase):
    def test_each_column(self):
        for query in SOME_FILTERS:
            lacking, span = selection(query)
            told = [at for at, value in enumerate(VALUES)
                    if (lacking == "yes" if value is None else has(span, value))]
            self.assertEqual(picked(query, VALUES), told)


class TestErrors(unittest.TestCase):
    def refused(self, error, function, *values, **named):
        with self.assertRaises(error) as caught:
            function(*values, **named)
        self.assertIs(type(caught.exception), error)

    def test_what_is_no_filter(self):
        for value in NO_FILTERS + [value for value in NO_TEXTS if value != ("is", "a")] + BIG:
            with self.subTest(value=repr(value)[:60]):
                self.refused(InvalidFilter, selection, value)
                self.refused(InvalidFilter, selection, query=value)
                for function in (alike, parting, within):
                    self.refused(InvalidFilter, function, value, ("none",))
                    self.refused(InvalidFilter, function, ("none",), value)
                    self.refused(InvalidFilter, function, ("say", False), value)
                    self.refused(InvalidFilter, function, other=value, one=("is", "a"))
                    self.refused(InvalidFilter, function, other=value, one=value)

    def test_what_is_no_answer(self):
        for value in [value for value in NO_TEXTS if value not in WORDS] + BIG + [
                "", "a", "Yes", "no ", "OPEN", "op", "yesno", "yes\n", ("yes",), ["no"], True, False]:
            with self.subTest(value=repr(value)[:60]):
                for span in ((), FULL, (("a", "b"), ("c", None))):
                    self.refused(InvalidValue, filter_of, value, span)
                    self.refused(InvalidValue, filter_of, span=span, lacking=value)

    def test_what_is_no_span(self):
        for value in NO_SPANS + [value for value in NO_TEXTS if value not in ((), FULL)] + BIG:
            with self.subTest(value=repr(value)[:60]):
                for lacking in WORDS:
                    self.refused(InvalidSpan, filter_of, lacking, value)
                    self.refused(InvalidSpan, filter_of, span=value, lacking=lacking)

    def test_the_first_wrong_argument_counts(self):
        for span in ([], None, (("b", "a"),)):
            for lacking in ("", None, True, "Yes", [], "a"):
                self.refused(InvalidValue, filter_of, lacking, span)
                self.refused(InvalidValue, filter_of, span=span, lacking=lacking)


if __name__ == "__main__":
    unittest.main()
