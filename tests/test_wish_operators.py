"""[15]: the wishes that operators make, filter for filter."""

import unittest

from pageskips.errors import InvalidFilter
from pageskips.wishes import Wish
from tests.refusals import RefusalTest
from tests.samples import BIG, FILTERS, NO_TEXTS, SOME_FILTERS, TEXTS, VALUES, deep, told_answer
from tests.test_wishes import OBJECTS

SIDES = [(Wish(query), query) for query in SOME_FILTERS[::6]]
PLAIN_SIDES = [(None, ("none",)), ("", ("is", "")), ("a", ("is", "a")), ("cab", ("is", "cab")),
               ("abc" * 20, ("is", "abc" * 20))]
PAIRS = [(one, other) for one in SIDES for other in SIDES + PLAIN_SIDES]
PAIRS += [(one, other) for one in PLAIN_SIDES for other in SIDES]
NO_SIDES = [value for value in NO_TEXTS if value is not None] + BIG + FILTERS[::9] + OBJECTS[2:]


class TestFilters(unittest.TestCase):
    def check(self, wish, query):
        self.assertIs(type(wish), Wish)
        self.assertEqual(wish.query, query)
        self.assertEqual(repr(wish.query), repr(query))

    def test_ordinary_wishes(self):
        a, b = Wish(("is", "a")), Wish(("begins", "b"))
        self.check(a & b, ("and", (("is", "a"), ("begins", "b"))))
        self.check(a | b, ("or", (("is", "a"), ("begins", "b"))))
        self.check(a - b, ("and", (("is", "a"), ("not", ("begins", "b")))))
        self.check(~a, ("not", ("is", "a")))
        self.check(~~a, ("not", ("not", ("is", "a"))))
        self.check(a & b & a, ("and", (("and", (("is", "a"), ("begins", "b"))), ("is", "a"))))
        self.check(a & (b & a), ("and", (("is", "a"), ("and", (("begins", "b"), ("is", "a"))))))
        self.check(a | "c", ("or", (("is", "a"), ("is", "c"))))
        self.check("c" | a, ("or", (("is", "c"), ("is", "a"))))
        self.check(a & None, ("and", (("is", "a"), ("none",))))
        self.check(None & a, ("and", (("none",), ("is", "a"))))
        self.check(b - "b", ("and", (("begins", "b"), ("not", ("is", "b")))))
        self.check("b" - b, ("and", (("is", "b"), ("not", ("begins", "b")))))
        self.check(b - None, ("and", (("begins", "b"), ("not", ("none",)))))
        self.check(None - b, ("and", (("none",), ("not", ("begins", "b")))))
        self.check("" - a, ("and", (("is", ""), ("not", ("is", "a")))))
        self.check(a - "", ("and", (("is", "a"), ("not", ("is", "")))))

    def test_all_sides(self):
        for (one, one_query), (other, other_query) in PAIRS:
            self.check(one & other, ("and", (one_query, other_query)))
            self.check(one | other, ("or", (one_query, other_query)))
            self.check(one - other, ("and", (one_query, ("not", other_query))))
        for one, query in SIDES:
            self.check(~one, ("not", query))
            self.check(one & one, ("and", (query, query)))

    def test_the_forms_with_equals_give_new_wishes(self):
        for (one, one_query), (other, other_query) in PAIRS:
            wish = one
            wish &= other
            self.check(wish, ("and", (one_query, other_query)))
            self.assertIsNot(wish, one)
            wish = one
            wish |= other
            self.check(wish, ("or", (one_query, other_query)))
            self.assertIsNot(wish, other)
            wish = one
            wish -= other
            self.check(wish, ("and", (one_query, ("not", other_query))))
            for kept, query in ((one, one_query), (other, other_query)):
                if isinstance(kept, Wish):
                    self.check(kept, query)

    def test_minus_is_and_not(self):
        for one, _ in SIDES:
            for other, _ in SIDES:
                self.check(one - other, (one & ~other).query)

    def test_what_they_let_pass(self):
        for (one, one_query), (other, other_query) in PAIRS[::5]:
            both, some, first = one & other, one | other, one - other
            for value in VALUES[::4]:
                here, there = told_answer(one_query, value) == "yes", told_answer(other_query, value)
                self.assertIs(value in both, here and there == "yes")
                self.assertIs(value in some, here or there == "yes")
                self.assertIs(value in first, here and there == "no")

    def test_many_levels_and_many_filters(self):
        wish, query = Wish(("is", "a")), ("is", "a")
        for text in TEXTS[:19]:
            wish, query = wish | text, ("or", (query, ("is", text)))
        self.check(wish, query)
        self.assertEqual(len(wish), 39)
        for _ in range(20):
            wish, query = ~wish, ("not", query)
        self.check(wish, query)
        self.assertEqual(len(wish), 59)
        self.assertEqual([value for value in TEXTS if value in wish], sorted(set(TEXTS[:19] + ["a"])))
        self.check(~Wish(deep(("none",), 30, lambda inner: ("not", inner))),
                   deep(("none",), 31, lambda inner: ("not", inner)))

    def test_equal_calls_give_equal_wishes(self):
        one, other = Wish(("is", "a")), Wish(("begins", "b"))
        self.assertEqual((one & other).query, (one & other).query)
        self.assertIsNot(one & other, one & other)


class TestErrors(RefusalTest):
    def test_wrong_operands(self):
        for wish in (Wish(("say", True)), Wish(("none",))):
            query = wish.query
            for wrong in NO_SIDES:
                with self.subTest(wrong=repr(wrong)[:60]):
                    self.refused(InvalidFilter, lambda: wish & wrong)
                    self.refused(InvalidFilter, lambda: wrong & wish)
                    self.refused(InvalidFilter, lambda: wish | wrong)
                    self.refused(InvalidFilter, lambda: wrong | wish)
                    self.refused(InvalidFilter, lambda: wish - wrong)
                    self.refused(InvalidFilter, lambda: wrong - wish)
            self.assertEqual(wish.query, query)

    def test_wrong_operands_of_the_forms_with_equals(self):
        def and_to(wish, other):
            wish &= other

        def or_to(wish, other):
            wish |= other

        def minus_to(wish, other):
            wish -= other

        wish = Wish(("is", "a"))
        for wrong in NO_SIDES:
            for deed in (and_to, or_to, minus_to):
                self.refused(InvalidFilter, deed, wish, wrong)
        self.assertEqual(wish.query, ("is", "a"))

    def test_wrong_operands_of_comparisons(self):
        for wish in (Wish(("say", False)), Wish(("say", True)), Wish(("none",))):
            for wrong in NO_SIDES + [None] + TEXTS[:9] + [wish.query, wish.span]:
                with self.subTest(wrong=repr(wrong)[:60]):
                    self.refused(InvalidFilter, lambda: wish <= wrong)
                    self.refused(InvalidFilter, lambda: wish < wrong)


if __name__ == "__main__":
    unittest.main()
