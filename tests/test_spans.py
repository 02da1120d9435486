"""[3], [10]: ranges and spans."""

import itertools
import random
import unittest

from pageskips.errors import InvalidNumber, InvalidSpan, InvalidText
from pageskips.spans import has, is_finite, is_span, joined, least_text, opposite, shared, span_of, texts_in
from tests.samples import (BIG, FULL, NO_RANGES, NO_SPANS, NO_TEXTS, SHORT, TEXTS, all_ranges, in_ranges,
                           texts_had)

RANGES = all_ranges(SHORT)
# Each has one text and none touches another one; they stand in falling sequence.
MANY_RANGES = [("a" * at + "b", "a" * at + "ba") for at in range(1500)]
NO_MOST = [0, -1, 1001, 1002, 10 ** 30, -(10 ** 30), True, False, None, "1", "", "a", (), [], (1,), [1]]


def chance_lists(many):
    """Lists of ranges by a fixed sequence of throws."""
    throws = random.Random(5)
    return [[throws.choice(RANGES) for _ in range(throws.randrange(7))] for _ in range(many)]


LISTS = chance_lists(400)
SPANS = sorted({span_of(ranges) for ranges in LISTS + [[]] + [[part] for part in RANGES[::7]]}, key=repr)
FEW_SPANS = [(), FULL] + SPANS[::9]


class TestIsSpan(unittest.TestCase):
    def test_spans(self):
        for span in [(), FULL, (("a", "b"),), (("", "a"),), (("a", None),), (("a", "aa"),),
                     (("a", "b"), ("c", None)), (("", "a"), ("aa", "ab"), ("b", "ba"), ("bb", None)),
                     (("a", "aa"), ("aaa", "aaaa")), (("c" * 13, "c" * 14),)]:
            with self.subTest(span=span):
                self.assertIs(is_span(span), True)
                self.assertIs(is_span(value=span), True)

    def test_nearly_spans_and_other_values(self):
        for value in NO_SPANS + NO_TEXTS + BIG:
            with self.subTest(value=repr(value)[:60]):
                # Two of the values that are no texts are spans.
                self.assertIs(is_span(value), value in ((), FULL))

    def test_spans_of_many_ranges(self):
        span = span_of(MANY_RANGES)
        self.assertIs(is_span(span), True)
        self.assertIs(is_span(span + (("c", 1),)), False)
        self.assertIs(is_span(span[:700] + span[701:699:-1] + span[702:]), False)
        self.assertIs(is_span(list(span)), False)

    def test_the_tuples_of_two_ranges(self):
        ranges = all_ranges(["", "a", "aa", "b", "ba", "c"])
        for one, other in itertools.product(ranges, ranges):
            apart = one[1] is not None and one[1] < other[0]
            self.assertIs(is_span((one, other)), apart)


class TestSpanOf(unittest.TestCase):
    def test_ordinary_lists(self):
        for ranges, told in [
            ([], ()),
            ([("a", "b")], (("a", "b"),)),
            ([("", None)], FULL),
            ([("c", None), ("a", "b")], (("a", "b"), ("c", None))),
            ([("a", "b"), ("b", "c")], (("a", "c"),)),
            ([("b", "c"), ("a", "b")], (("a", "c"),)),
            ([("a", "aa"), ("aa", "aaa")], (("a", "aaa"),)),
            ([("a", "bb"), ("b", "c")], (("a", "c"),)),
            ([("a", "c"), ("aa", "b")], (("a", "c"),)),
            ([("aa", "b"), ("a", "c")], (("a", "c"),)),
            ([("a", "b"), ("a", "b"), ("a", "b")], (("a", "b"),)),
            ([("a", "c"), ("a", "b")], (("a", "c"),)),
            ([("a", "b"), ("a", "c")], (("a", "c"),)),
            ([("a", None), ("a", "b")], (("a", None),)),
            ([("a", "b"), ("a", None)], (("a", None),)),
            ([("a", None), ("b", "c"), ("c", None)], (("a", None),)),
            ([("b", None), ("a", "b")], (("a", None),)),
            ([("", "a"), ("a", None)], FULL),
            ([("a", "b"), ("c", "ca"), ("", "a")], (("", "b"), ("c", "ca"))),
            ([("a", "ab"), ("b", "c"), ("aa", "ba")], (("a", "c"),)),
            ([("a", "c"), ("aa", "ab"), ("b", "ba")], (("a", "c"),)),
        ]:
            with self.subTest(ranges=ranges):
                self.assertEqual(span_of(ranges), told)
                self.assertEqual(span_of(ranges=ranges), told)

    def test_it_has_the_texts_of_the_ranges(self):
        for ranges in LISTS:
            span = span_of(ranges)
            self.assertIs(is_span(span), True)
            self.assertEqual(texts_had(span), texts_had(ranges))

    def test_the_sequence_of_the_ranges_does_not_matter(self):
        for ranges in LISTS[::20]:
            for turned in itertools.permutations(ranges[:4]):
                self.assertEqual(span_of(list(turned)), span_of(ranges[:4]))

    def test_more_than_a_thousand_ranges(self):
        throws = random.Random(3)
        mixed = list(MANY_RANGES)
        throws.shuffle(mixed)
        span = span_of(mixed)
        self.assertEqual(len(span), 1500)
        self.assertEqual(span, tuple(sorted(MANY_RANGES)))
        self.assertEqual(span_of(mixed + [("", None)] + mixed), FULL)
        self.assertEqual(span_of([("a" * at, "a" * (at + 1)) for at in range(1200, 0, -1)]),
                         (("a", "a" * 1201),))

    def test_a_passed_list_stays_as_it_was_and_is_not_kept(self):
        ranges = [("b", "c"), ("a", "b"), ("a", "aa")]
        span = span_of(ranges)
        self.assertEqual(ranges, [("b", "c"), ("a", "b"), ("a", "aa")])
        ranges.clear()
        self.assertEqual(span, (("a", "c"),))
        self.assertEqual(span_of(ranges), ())

    def test_what_is_no_list_of_ranges(self):
        wrong = [[part] for part in NO_RANGES] + [[("a", "b"), part] for part in NO_RANGES]
        wrong += [(), FULL, (("a", "b"),), ("a", "b"), "", "a", None, True, 0, 10 ** 30]
        for value in wrong + [value for value in BIG if value]:
            with self.subTest(value=repr(value)[:60]):
                with self.assertRaises(InvalidSpan) as caught:
                    span_of(value)
                self.assertIs(type(caught.exception), InvalidSpan)

    def test_a_refused_list_stays_as_it_was(self):
        ranges = [("b", "c"), ("a", "b"), ("b", "a")]
        with self.assertRaises(InvalidSpan):
            span_of(ranges)
        self.assertEqual(ranges, [("b", "c"), ("a", "b"), ("b", "a")])


class TestHas(unittest.TestCase):
    def test_ordinary_spans(self):
        span = (("a", "b"), ("c", "ca"))
        for text, told in (("", False), ("a", True), ("aa", True), ("accc", True), ("b", False), ("bc", False),
                           ("c", True), ("ca", False), ("cb", False)):
            self.assertIs(has(span, text), told)
            self.assertIs(has(text=text, span=span), told)

    def test_all_and_none(self):
        for text in TEXTS + ["c" * 8000]:
            self.assertIs(has((), text), False)
            self.assertIs(has(FULL, text), True)

    def test_it_is_as_the_ranges_say(self):
        for span in SPANS[::4]:
            for text in TEXTS:
                self.assertIs(has(span, text), in_ranges(span, text))


class TestOpposite(unittest.TestCase):
    def test_ordinary_spans(self):
        for span, told in [
            ((), FULL), (FULL, ()), ((("", "a"),), (("a", None),)), ((("a", None),), (("", "a"),)),
            ((("a", "b"),), (("", "a"), ("b", None))), ((("", "a"), ("b", None)), (("a", "b"),)),
            ((("a", "b"), ("c", None)), (("", "a"), ("b", "c"))),
            ((("", "a"), ("b", "ba")), (("a", "b"), ("ba", None))),
        ]:
            self.assertEqual(opposite(span), told)
            self.assertEqual(opposite(span=span), told)

    def test_it_has_all_other_texts(self):
        for span in SPANS:
            turned = opposite(span)
            self.assertIs(is_span(turned), True)
            self.assertEqual(sorted(texts_had(span) + texts_had(turned)), TEXTS)
            self.assertEqual(opposite(turned), span)


class TestJoinedAndShared(unittest.TestCase):
    def test_ordinary_spans(self):
        one, other = (("a", "b"), ("c", None)), (("aa", "ca"),)
        self.assertEqual(joined(one, other), (("a", None),))
        self.assertEqual(shared(one, other), (("aa", "b"), ("c", "ca")))
        self.assertEqual(joined(other_span=other, span=one), (("a", None),))
        self.assertEqual(shared(other_span=other, span=one), (("aa", "b"), ("c", "ca")))
        self.assertEqual(joined((("a", "b"),), (("b", "c"),)), (("a", "c"),))
        self.assertEqual(shared((("a", "b"),), (("b", "c"),)), ())

    def test_they_have_the_texts_of_one_and_of_both(self):
        for one, other in itertools.product(FEW_SPANS, FEW_SPANS):
            both = joined(one, other)
            common = shared(one, other)
            self.assertIs(is_span(both), True)
            self.assertIs(is_span(common), True)
            self.assertEqual(texts_had(both), texts_had(one + other))
            self.assertEqual(texts_had(common), [text for text in texts_had(one) if in_ranges(other, text)])

    def test_with_all_and_none(self):
        for span in SPANS:
            self.assertEqual(joined(span, ()), span)
            self.assertEqual(joined((), span), span)
            self.assertEqual(joined(span, FULL), FULL)
            self.assertEqual(shared(span, FULL), span)
            self.assertEqual(shared(FULL, span), span)
            self.assertEqual(shared((), span), ())
            self.assertEqual(joined(span, opposite(span)), FULL)
            self.assertEqual(shared(span, opposite(span)), ())

    def test_spans_beyond_the_limits(self):
        many = span_of(MANY_RANGES)
        self.assertEqual(len(opposite(many)), 1501)
        self.assertEqual(joined(many, opposite(many)), FULL)
        self.assertEqual(shared(many, opposite(many)), ())
        self.assertEqual(shared(many, opposite(opposite(many))), many)


class TestOneSpanForEachSet(unittest.TestCase):
    def test_however_it_was_made(self):
        made = {}
        for one, other in itertools.product(FEW_SPANS, FEW_SPANS):
            for span in (joined(one, other), shared(one, other), opposite(joined(one, other)),
                         shared(opposite(one), opposite(other)), opposite(shared(one, other)),
                         joined(opposite(one), opposite(other)), span_of(list(one + other)),
                         joined(shared(one, other), shared(one, opposite(other)))):
                made.setdefault(tuple(texts_had(span)), span)
                self.assertEqual(made[tuple(texts_had(span))], span)

    def test_equal_calls_have_equal_answers(self):
        for ranges in LISTS:
            self.assertEqual(span_of(ranges), span_of([(part[0], part[1]) for part in ranges]))


class TestLeastText(unittest.TestCase):
    def test_ordinary_spans(self):
        self.assertIs(least_text(()), None)
        self.assertEqual(least_text(FULL), "")
        self.assertEqual(least_text((("b", "ba"), ("c", None))), "b")
        self.assertEqual(least_text(span=(("ab", None),)), "ab")

    def test_it_is_the_first_of_all(self):
        for span in SPANS:
            texts = texts_had(span)
            self.assertEqual(least_text(span), texts[0] if texts else None)


class TestTextsIn(unittest.TestCase):
    def test_ordinary_spans(self):
        for span, most, told in [
            ((), 1, []), ((), 1000, []), (FULL, 1, [""]), (FULL, 3, ["", "a", "aa"]),
            ((("a", "b"),), 3, ["a", "aa", "aaa"]), ((("a", "b"), ("c", None)), 2, ["a", "aa"]),
            ((("a", "aa"),), 5, ["a"]), ((("a", "aa"), ("b", "baa")), 5, ["a", "b", "ba"]),
            ((("a", "aa"), ("b", "baa")), 3, ["a", "b", "ba"]),
            ((("a", "aa"), ("b", "baa")), 2, ["a", "b"]), ((("a", "aa"), ("b", "baa")), 1, ["a"]),
            ((("", "aaa"), ("c", None)), 6, ["", "a", "aa", "c", "ca", "caa"]),
            ((("b", "bac"), ("c", None)), 3, ["b", "ba", "baa"]),
        ]:
            with self.subTest(span=span, most=most):
                self.assertEqual(texts_in(span, most), told)
                self.assertEqual(texts_in(most=most, span=span), told)

    def test_many_texts(self):
        self.assertEqual(texts_in(FULL, 1000), ["a" * many for many in range(1000)])
        self.assertEqual(texts_in((("", "a" * 800), ("b", None)), 1000)[799:801], ["a" * 799, "b"])
        self.assertEqual(texts_in((("c", "c" + "a" * 50),), 1000), ["c" + "a" * many for many in range(50)])
        self.assertEqual(len(texts_in(span_of(MANY_RANGES), 1000)), 1000)

    def test_they_are_the_first_texts(self):
        for span in SPANS:
            texts = texts_in(span, 50)
            self.assertEqual(texts, sorted(set(texts)))
            self.assertLessEqual(len(texts), 50)
            had = texts_had(span)
            last = texts[-1] if texts else ""
            self.assertEqual([text for text in texts if len(text) <= 4],
                             [text for text in had if len(texts) < 50 or text <= last])

    def test_returned_lists_are_new(self):
        span = (("a", "aa"), ("b", None))
        texts = texts_in(span, 3)
        other = texts_in(span, 3)
        self.assertIsNot(texts, other)
        texts.append("c")
        texts[0] = ""
        self.assertEqual(other, ["a", "b", "ba"])
        self.assertEqual(texts_in(span, 3), ["a", "b", "ba"])
        empty = texts_in((), 3)
        empty.append("a")
        self.assertEqual(texts_in((), 3), [])


class TestIsFinite(unittest.TestCase):
    def test_ordinary_spans(self):
        for span, told in [
            ((), True), (FULL, False), ((("a", "aa"),), True), ((("a", "aaaa"),), True), ((("a", "b"),), False),
            ((("a", "ab"),), False), ((("", "a"),), True), ((("", "aaa"),), True), ((("", "b"),), False),
            ((("a", None),), False), ((("c", "ca"), ("cb", "cbaa")), True), ((("b", "baba"),), False),
            ((("a", "aa"), ("b", "c")), False), ((("", "b"), ("c", "ca")), False), ((("b", "ca"),), False),
            ((("ab", "b"),), False), ((("ab", "aba"), ("b", None)), False), ((("b", "baac"),), False),
            ((("", "a" * 8000),), True),
        ]:
            with self.subTest(span=span):
                self.assertIs(is_finite(span), told)
                self.assertIs(is_finite(span=span), told)

    def test_finite_spans_come_to_their_end(self):
        for span in SPANS:
            self.assertIs(is_finite(span), len(texts_in(span, 1000)) < 1000)


class TestErrors(unittest.TestCase):
    def refused(self, error, function, *values, **named):
        with self.assertRaises(error) as caught:
            function(*values, **named)
        self.assertIs(type(caught.exception), error)

    def test_what_is_no_span(self):
        for value in NO_SPANS + NO_TEXTS + BIG:
            if value in ((), FULL):
                continue
            with self.subTest(value=repr(value)[:60]):
                for function in (opposite, least_text, is_finite):
                    self.refused(InvalidSpan, function, value)
                    self.refused(InvalidSpan, function, span=value)
                self.refused(InvalidSpan, has, value, "a")
                self.refused(InvalidSpan, texts_in, value, 1)
                for function in (joined, shared):
                    self.refused(InvalidSpan, function, value, ())
                    self.refused(InvalidSpan, function, (), value)
                    self.refused(InvalidSpan, function, other_span=value, span=FULL)

    def test_what_is_no_text(self):
        for value in NO_TEXTS + BIG:
            for span in ((), FULL):
                self.refused(InvalidText, has, span, value)
                self.refused(InvalidText, has, text=value, span=span)

    def test_what_is_no_number(self):
        for value in NO_MOST + BIG:
            for span in ((), FULL):
                self.refused(InvalidNumber, texts_in, span, value)
                self.refused(InvalidNumber, texts_in, most=value, span=span)

    def test_the_bounds_of_numbers(self):
        self.assertEqual(texts_in(FULL, 1), [""])
        self.assertEqual(len(texts_in(FULL, 1000)), 1000)

    def test_the_first_wrong_argument_counts(self):
        for span in ([], None, (("b", "a"),)):
            self.refused(InvalidSpan, has, span, None)
            self.refused(InvalidSpan, has, text="d", span=span)
            self.refused(InvalidSpan, texts_in, span, 0)
            self.refused(InvalidSpan, texts_in, most=True, span=span)


if __name__ == "__main__":
    unittest.main()
