"""[15]: wishes, what they answer, and their comparisons."""

import unittest

from pageskips import errors
from pageskips.columns import Column
from pageskips.console import Console
from pageskips.errors import InvalidFilter, InvalidSpan, InvalidValue
from pageskips.filters import alike, answer, parting, selection, within
from pageskips.spans import is_span, opposite, span_of
from pageskips.wishes import Wish
from tests.refusals import RefusalTest
from tests.samples import (BIG, FILTERS, FULL, NO_FILTERS, NO_SPANS, NO_STRINGS, NO_TEXTS, SHORT, SOME_FILTERS, TEXTS,
                           VALUES, WORDS, all_ranges, deep, told_answer)

A_WISH = Wish(("is", "a"))
OBJECTS = [A_WISH, Wish(("none",)), Column(("many", 1, "lost"), 2), Console(("many", 1, "lost"), 2),
           errors.InvalidFilter("a"), errors.InvalidWords(1)]
# A span as a tuple of one range is a tuple of values; none of these is a value.
NO_VALUES = [value for value in NO_TEXTS if value is not None] + BIG + FILTERS[::9] + OBJECTS
SPANS = [(), FULL, (("", "a"),), (("a", "aa"),), (("a", "b"), ("bb", None)), (("", "a"), ("ab", "b"), ("c", "ca"))]
SPANS += [span_of([one, other]) for one, other in zip(all_ranges(SHORT)[::5], all_ranges(SHORT)[40::5])]
SPANS += [opposite(span) for span in SPANS]


def told_passing(query):
    """The values of the tests that pass."""
    return {value for value in VALUES if told_answer(query, value) == "yes"}


def told_number(query):
    """How many filters a filter consists of."""
    if query[0] == "not":
        return 1 + told_number(query[1])
    return 1 + sum([told_number(part) for part in query[1]]) if query[0] in ("and", "or") else 1


class TestAnswers(unittest.TestCase):
    def test_the_properties(self):
        for query in FILTERS + [deep(("is", "a"), 39, lambda inner: ("not", inner)), ("or", (("say", True),) * 6000)]:
            wish = Wish(query)
            self.assertEqual(wish.query, query)
            self.assertEqual((wish.lacking, wish.span), selection(query))
            self.assertEqual(wish.lacking, told_answer(query, None))
            self.assertIs(is_span(wish.span), True)
            self.assertEqual(repr(Wish(query=query).query), repr(query))

    def test_some_properties(self):
        wish = Wish(("or", (("none",), ("begins", "ac"))))
        self.assertEqual((wish.lacking, wish.span), ("yes", (("ac", "b"),)))
        wish = Wish(("not", ("is", "")))
        self.assertEqual((wish.lacking, wish.span), ("open", (("a", None),)))
        wish = Wish(("say", False))
        self.assertEqual((wish.lacking, wish.span), ("no", ()))

    def test_it_does_not_change(self):
        wish = Wish(("is", "a"))
        for name in ("query", "span", "lacking"):
            with self.assertRaises(AttributeError):
                setattr(wish, name, ("is", "b"))
        self.assertEqual((wish.query, wish.span, wish.lacking), (("is", "a"), (("a", "aa"),), "open"))

    def test_calls(self):
        for query in SOME_FILTERS:
            wish = Wish(query)
            for value in VALUES[::3]:
                self.assertEqual(wish(value), told_answer(query, value))
                self.assertEqual(wish(value=value), answer(query, value))
        wish = Wish(("not", ("is", "b")))
        self.assertEqual([wish(value) for value in (None, "a", "b", "")], ["open", "yes", "no", "yes"])

    def test_in(self):
        for query in SOME_FILTERS:
            wish = Wish(query)
            for value in VALUES[::3]:
                self.assertIs(value in wish, told_answer(query, value) == "yes")
                self.assertIs(value not in wish, told_answer(query, value) != "yes")

    def test_in_for_values_of_any_kind(self):
        for query in (("say", True), ("not", ("is", "")), ("none",), ("is", "a")):
            wish = Wish(query)
            for value in NO_VALUES:
                with self.subTest(value=repr(value)[:60]):
                    self.assertIs(value in wish, False)
        self.assertIs("c" * 8000 in Wish(("begins", "c")), True)
        self.assertIs("c" * 7999 + "d" in Wish(("say", True)), False)

    def test_bool(self):
        for query, told in [
            (("none",), True), (("say", True), True), (("say", False), False), (("among", ()), False), (("or", ()), False),
            (("and", ()), True), (("below", ""), False), (("below", "a"), True), (("is", ""), True),
            (("and", (("is", "a"), ("is", "b"))), False), (("and", (("none",), ("is", "a"))), False),
            (("and", (("above", "a"), ("below", "aa"))), False), (("not", ("begins", "")), False),
            (("not", ("not", ("none",))), True), (("or", (("none",), ("say", False))), True),
        ]:
            with self.subTest(query=query):
                self.assertIs(bool(Wish(query)), told)
        for query in FILTERS:
            self.assertIs(bool(Wish(query)), told_passing(query) != set())

    def test_len(self):
        for query, told in [
            (("is", "a"), 1), (("none",), 1), (("among", ("a", "b", "c")), 1), (("not", ("none",)), 2), (("and", ()), 1),
            (("or", (("is", "a"),) * 5), 6), (("not", ("and", (("not", ("none",)), ("or", ()), ("say", True)))), 6),
        ]:
            self.assertEqual(len(Wish(query)), told)
        for query in FILTERS:
            self.assertEqual(len(Wish(query)), told_number(query))
        self.assertEqual(len(Wish(("and", (("say", True),) * 6000))), 6001)
        self.assertEqual(len(Wish(deep(("is", "a"), 39, lambda inner: ("not", inner)))), 40)

    def test_no_iteration(self):
        for wish in (Wish(("say", True)), Wish(("among", ("a", "b")))):
            for iterated in (iter, list, tuple, sorted):
                with self.assertRaises(TypeError):
                    iterated(wish)
            with self.assertRaises(TypeError):
                wish[0]


class TestComparisons(unittest.TestCase):
    def test_alike(self):
        for one, other, told in [
            (("is", "a"), ("among", ("a", "a")), True), (("is", "a"), ("is", "b"), False),
            (("say", False), ("among", ()), False), (("above", ""), ("not", ("is", "")), True),
            (("say", True), ("begins", ""), False), (("or", ()), ("say", False), True),
            (("not", ("not", ("none",))), ("none",), True),
        ]:
            self.check_equal(Wish(one), Wish(other), told)

    def check_equal(self, one, other, told):
        self.assertIs(one == other, told)
        self.assertIs(other == one, told)
        self.assertIs(one != other, not told)
        self.assertIs(other != one, not told)

    def test_all_pairs(self):
        wishes = [(query, Wish(query), told_passing(query)) for query in SOME_FILTERS]
        for one, one_wish, one_passing in wishes:
            for other, other_wish, other_passing in wishes[::2]:
                equal = one_passing == other_passing and told_answer(one, None) == told_answer(other, None)
                self.assertIs(one_wish == other_wish, equal)
                self.assertIs(one_wish != other_wish, not equal)
                self.assertIs(one_wish <= other_wish, one_passing <= other_passing)
                self.assertIs(one_wish < other_wish, one_passing < other_passing)

    def test_they_go_with_the_functions(self):
        for one, other in zip(FILTERS, FILTERS[7:] + FILTERS[:7]):
            self.assertIs(Wish(one) == Wish(other), alike(one, other))
            self.assertIs(Wish(one) <= Wish(other), within(one, other))
            less = within(one, other) and parting(one, other) != ()
            self.assertIs(Wish(one) < Wish(other), less)

    def test_unequal_to_other_values(self):
        for wish in (A_WISH, Wish(("none",)), Wish(("say", True)), Wish(("say", False))):
            others = NO_TEXTS + BIG + FILTERS[::9] + TEXTS[:9] + [wish.query, wish.span, wish.lacking] + OBJECTS[2:]
            for other in others:
                with self.subTest(other=repr(other)[:60]):
                    self.check_equal(wish, other, False)
            self.check_equal(wish, [wish], False)
            self.check_equal(wish, wish, True)

    def test_what_only_none_tells_apart(self):
        no, open_answer, yes = [Wish.of_span((("a", "b"),), lacking=word) for word in ("no", "open", "yes")]
        self.check_equal(no, open_answer, False)
        self.check_equal(no, yes, False)
        self.assertTrue(no <= open_answer and open_answer <= no and not no < open_answer and not open_answer < no)
        self.assertTrue(no < yes and open_answer < yes and no <= yes and not yes <= no and not yes < no)


class TestOfSpan(RefusalTest):
    def test_each_word(self):
        for span in SPANS:
            for lacking in WORDS:
                for wish in (Wish.of_span(span, lacking=lacking), Wish.of_span(lacking=lacking, span=span)):
                    self.assertIs(type(wish), Wish)
                    self.assertEqual((wish.lacking, wish.span), (lacking, span))
                    self.assertEqual(selection(wish.query), (lacking, span))
            self.assertEqual(Wish.of_span(span).lacking, "open")
            self.assertEqual(Wish.of_span(span).span, span)
            self.assertEqual(Wish.of_span(span).query, Wish.of_span(span).query)

    def test_no_text_and_all_texts(self):
        self.assertIs(bool(Wish.of_span((), lacking="yes")), True)
        self.assertIs(bool(Wish.of_span((), lacking="no")), False)
        self.assertIs(bool(Wish.of_span(())), False)
        self.assertTrue(Wish.of_span((), lacking="no") == Wish(("say", False)))
        self.assertTrue(Wish.of_span((), lacking="yes") == Wish(("none",)))
        self.assertTrue(Wish.of_span(()) == Wish(("among", ())))
        self.assertTrue(Wish.of_span(FULL, lacking="yes") == Wish(("say", True)))
        self.assertTrue(Wish.of_span(FULL) == Wish(("begins", "")))
        self.assertTrue(Wish.of_span(FULL, lacking="no") == Wish(("not", ("none",))))

    def test_it_is_called_off_a_wish_too(self):
        wish = A_WISH.of_span((("b", "c"),), lacking="no")
        self.assertEqual((wish.lacking, wish.span), ("no", (("b", "c"),)))
        self.assertEqual(A_WISH.query, ("is", "a"))

    def test_spans_of_wishes_are_taken_back(self):
        for query in FILTERS + [("among", tuple(text + "b" for text in TEXTS))]:
            wish = Wish(query)
            self.assertTrue(Wish.of_span(wish.span, lacking=wish.lacking) == wish)

    def test_wrong_arguments(self):
        for span in NO_SPANS + [value for value in BIG if value != deep((), 39)] + OBJECTS:
            self.refused(InvalidSpan, Wish.of_span, span)
            self.refused(InvalidSpan, Wish.of_span, span, lacking="yes")
        for span in NO_SPANS[::5]:
            self.refused(InvalidSpan, Wish.of_span, span, lacking="maybe")
            self.refused(InvalidSpan, Wish.of_span, lacking=None, span=span)
        no_words = ["Yes", "yes ", "", "none", None, True, False, 0, 1, ("yes",), ["no"], "yesno", "a"]
        for lacking in no_words + BIG + OBJECTS + NO_STRINGS:
            self.refused(InvalidValue, Wish.of_span, (), lacking=lacking)
            self.refused(InvalidValue, Wish.of_span, lacking=lacking, span=(("a", "b"),))


class TestErrors(RefusalTest):
    def test_no_filters(self):
        others = [value for value in NO_TEXTS if value != ("is", "a")]
        for query in NO_FILTERS + BIG + others + TEXTS[:20] + OBJECTS:
            self.refused(InvalidFilter, Wish, query)
            self.refused(InvalidFilter, Wish, query=query)

    def test_filters_with_lists_in_them(self):
        for query in [["is", "a"], ("among", ["a"]), ("and", [("none",)]), ("or", (["none"],)), ("not", ["none"]),
                      ("and", (("or", [("is", "a")]),)), ("not", ("among", ["a", "b"]))]:
            self.refused(InvalidFilter, Wish, query)

    def test_calls_with_what_is_no_value(self):
        for wish in (A_WISH, Wish(("say", True)), Wish(("none",))):
            for value in NO_VALUES:
                self.refused(InvalidValue, wish, value)
                self.refused(InvalidValue, wish, value=value)


if __name__ == "__main__":
    unittest.main()
