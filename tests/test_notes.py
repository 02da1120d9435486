"""[6], [7], [8], [12]: which notes there are, and what stands in the pages that they fit."""

import itertools
import unittest

from pageskips import errors
from pageskips.errors import InvalidNote, InvalidRule
from pageskips.notes import is_note, lacking_of, note, texts_of
from pageskips.spans import EVERY_TEXT
from tests.note_model import (ALL_RULES, BIG_COUNT, NO_NOTES, NO_RULES, RULES, SHORT_TEXTS, kinds, pages_by_note,
                              plain, span_told, told_note)
from tests.refusals import RefusalTest
from tests.samples import BIG, NO_TEXTS, TEXTS

BOUNDS = [None] + SHORT_TEXTS


class TestIsNote(unittest.TestCase):
    def is_one(self, rule, *values):
        for value in values:
            with self.subTest(rule=rule, value=value):
                self.assertIs(is_note(rule, value), True)
                self.assertIs(is_note(value=value, rule=rule), True)

    def is_none(self, rule, *values):
        for value in values:
            with self.subTest(rule=rule, value=value):
                self.assertIs(is_note(rule, value), False)
                self.assertIs(is_note(value=value, rule=rule), False)

    def test_notes_of_pages(self):
        for rule in ALL_RULES:
            for page in (["a"], [None], ["", None, "cc"], ["abcabca", "bb"], ["c" * 8, "ccb", None, None]):
                self.is_one(rule, note(rule, page))

    def test_the_notes_of_all_small_pages_and_no_others(self):
        for rule in RULES:
            told = pages_by_note(rule)
            counts = itertools.product(range(5), [None, True, False, -1, 0, 1, 2, 3, 4, 5])
            for many, lacks in counts:
                for low, high in itertools.product(BOUNDS[:6] + BOUNDS[9:10], BOUNDS):
                    value = (many, lacks, low, high)
                    self.assertIs(is_note(rule, value), kinds(value) in told, (rule, value))

    def test_the_kinds_of_the_parts_count(self):
        self.is_one(("some", "lost", "lost"), (2, True, None, None), (2, False, None, None))
        self.is_none(("some", "lost", "lost"), (2, 1, None, None), (2, 0, None, None), (2, None, None, None))
        self.is_one(("many", "lost", "lost"), (2, 1, None, None), (2, 0, None, None), (2, 2, None, None))
        self.is_none(("many", "lost", "lost"), (2, True, None, None), (2, False, None, None), (2, None, None, None))
        self.is_one(("hidden", "lost", "lost"), (2, None, None, None))
        self.is_none(("hidden", "lost", "lost"), (2, True, None, None), (2, 0, None, None), (2, "", None, None))
        self.is_none(("many", "lost", "lost"), (True, 0, None, None), (True, 1, None, None))
        self.is_none(("hidden", "lost", "lost"), (True, None, None, None), (False, None, None, None))

    def test_counts_that_are_too_small_for_the_bounds(self):
        for lacks, told in (("many", 0), ("some", False), ("hidden", None)):
            rule = (lacks, 1, ("cut", 1))
            self.is_none(rule, (1, told, "a", "b"), (1, told, "", "a"), (0, told, "a", "a"), (0, told, None, None),
                         (-1, told, "a", "a"))
            self.is_one(rule, (1, told, "a", "a"), (2, told, "a", "b"), (3, told, "", "a"), (1, told, "", ""))
            # Of one text the first letters are noted by both bounds.
            unlike = (lacks, 1, ("cut", 2))
            self.is_one(unlike, (1, told, "a", "ab"), (1, told, "a", "a"), (2, told, "a", "b"))
            self.is_none(unlike, (1, told, "a", "b"), (1, told, "b", "ab"), (1, told, "", "a"))

    def test_lacks_beside_the_bounds(self):
        rule = ("many", 1, ("cut", 1))
        self.is_one(rule, (3, 1, "a", "b"), (3, 2, "a", "a"), (3, 3, None, None), (1, 1, None, None))
        self.is_none(rule, (3, 2, "a", "b"), (3, 3, "a", "a"), (3, 4, None, None), (3, -1, "a", "b"),
                     (3, 2, None, None), (3, 0, None, None), (1, 1, "a", "a"))
        rule = ("some", 1, ("cut", 1))
        self.is_one(rule, (3, True, "a", "b"), (2, True, "a", "a"), (2, True, None, None), (1, True, None, None))
        self.is_none(rule, (2, True, "a", "b"), (1, True, "a", "a"), (2, False, None, None), (1, False, None, None))
        rule = ("hidden", 1, ("cut", 1))
        self.is_one(rule, (2, None, "a", "b"), (1, None, "a", "a"), (1, None, None, None))
        self.is_none(rule, (1, None, "a", "b"))

    def test_bounds_that_no_text_gives(self):
        self.is_none(("many", 1, ("cut", 1)), (2, 0, "aa", "b"), (2, 0, "a", "ba"), (2, 0, "d", "e"),
                     (2, 0, "a", "d"), (2, 0, "a", 1), (2, 0, ("a",), "b"))
        self.is_none(("many", 0, ("cut", 0)), (2, 0, "a", ""), (2, 0, "", "a"))
        self.is_one(("many", 0, ("cut", 0)), (2, 0, "", ""))
        self.is_none(("many", 0, ("beyond", 0)), (2, 0, "", "a"), (2, 0, "", "b"), (2, 0, None, None))
        self.is_one(("many", 0, ("beyond", 0)), (2, 0, "", ""), (2, 0, "", None))
        self.is_none(("many", 0, ("beyond", 2)), (2, 0, "", "aaa"), (2, 0, "", "cca"))
        self.is_one(("many", 0, ("beyond", 2)), (2, 0, "", ""), (2, 0, "", "aa"), (2, 0, "", "cc"), (2, 0, "", "a"),
                    (2, 0, "", None))
        self.is_none(("many", 0, ("cut", 2)), (2, 0, "", None), (2, 0, None, ""))

    def test_bounds_exchanged(self):
        for lacks, told in (("many", 0), ("some", False), ("hidden", None)):
            for way in ("cut", "beyond"):
                self.is_none((lacks, 1, (way, 1)), (2, told, "b", "a"), (BIG_COUNT, told, "c", "a"),
                             (3, told, "a", ""))
                self.is_one((lacks, 1, (way, 1)), (2, told, "a", "b"), (BIG_COUNT, told, "a", "c"),
                            (3, told, "", "a"))
        # The text ab has the first letter a, and its text beyond is b.
        self.is_one(("many", 1, ("beyond", 1)), (1, 0, "a", "b"), (1, 0, "a", "a"), (1, 0, "c", None))
        self.is_none(("many", 1, ("beyond", 1)), (1, 0, "a", "c"), (1, 0, "b", "a"), (1, 0, "b", None))
        self.is_none(("many", 2, ("cut", 2)), (2, 0, "ab", "a"))
        self.is_one(("many", 1, ("cut", 0)), (2, 0, "c", ""))
        self.is_one(("many", 2, ("cut", 1)), (1, 0, "ac", "a"))

    def test_one_bound_lost_or_both(self):
        for lacks, told in (("many", 0), ("some", False), ("hidden", None)):
            self.is_one((lacks, "lost", ("cut", 1)), (1, told, None, "a"), (BIG_COUNT, told, None, ""))
            self.is_none((lacks, "lost", ("cut", 1)), (1, told, "a", "a"), (1, told, "", "a"))
            self.is_one((lacks, 1, "lost"), (1, told, "a", None), (BIG_COUNT, told, "c", None))
            self.is_none((lacks, 1, "lost"), (1, told, "a", "a"), (1, told, "a", ""))
            self.is_one((lacks, "lost", "lost"), (1, told, None, None), (BIG_COUNT, told, None, None))
            self.is_none((lacks, "lost", "lost"), (1, told, "", None), (1, told, None, ""))
            self.is_one((lacks, "lost", ("beyond", 1)), (1, told, None, None), (1, told, None, "c"))
        # Without bounds nothing tells that there is a text, but the count of lacking ones.
        self.is_one(("many", "lost", ("cut", 1)), (2, 2, None, None), (2, 1, None, "a"))
        self.is_none(("many", "lost", ("cut", 1)), (2, 1, None, None), (2, 2, None, "a"), (2, 0, None, None))
        self.is_none(("many", 1, "lost"), (2, 1, None, None), (2, 2, "a", None))
        self.is_none(("some", 1, "lost"), (2, False, None, None), (1, True, "a", None))

    def test_pages_of_none_alone(self):
        for rule in ALL_RULES:
            for many in (1, 2, 3, BIG_COUNT):
                lacks = {"many": many, "some": True, "hidden": None}[rule[0]]
                self.is_one(rule, (many, lacks, None, None))
                self.is_none(rule, (many, lacks, "d", None), (many, lacks, None, "d"))
            if rule[1] != "lost":
                self.is_none(rule, (2, {"many": 2, "some": True, "hidden": None}[rule[0]], None, ""))

    def test_counts_of_many_digits(self):
        """A page of four values with a text in it becomes a longer one by writing the text again."""
        for rule in RULES:
            for value in [plain(told) for told in pages_by_note(rule) if told[0] == ("int", 4)]:
                with self.subTest(rule=rule, value=value):
                    if rule[0] == "many":
                        self.is_one(rule, (BIG_COUNT + 4, BIG_COUNT + value[1], *value[2:]))
                    if rule[0] != "many" or value[1] < 4:
                        self.is_one(rule, (BIG_COUNT, *value[1:]), (10 ** 31 - 1, *value[1:]))
        rule = ("many", 1, ("cut", 1))
        self.is_none(rule, (BIG_COUNT, BIG_COUNT, "a", "a"), (BIG_COUNT, BIG_COUNT - 1, "a", "b"),
                     (BIG_COUNT, BIG_COUNT + 1, None, None), (BIG_COUNT, BIG_COUNT - 1, None, None))
        self.is_one(rule, (BIG_COUNT, BIG_COUNT, None, None), (BIG_COUNT, BIG_COUNT - 1, "a", "a"),
                    (BIG_COUNT, BIG_COUNT - 2, "a", "b"))

    def test_other_values(self):
        for rule in ALL_RULES[::11]:
            self.is_none(rule, *BIG, *NO_TEXTS, *TEXTS[:9], rule, errors.InvalidNote("a"))
            self.is_none(rule, (2, "0", "a", "b"), ("2", 0, "a", "b"), [2, 0, "a", "b"], (2, 0, "a"), ())
            for wrong in BIG + [value for value in NO_TEXTS if value is not None]:
                self.assertIs(is_note(rule, (2, 0, "a", wrong)), False)
                self.assertIs(is_note(rule, (2, None, wrong, "b")), False)

    def test_by_their_own_rules_alone(self):
        value = (2, 0, "a", "b")
        told = {rule for rule in RULES if is_note(rule, value)}
        self.assertEqual(told, {("many", 1, ("cut", 1)), ("many", 1, ("beyond", 1))})


class TestTextsOf(unittest.TestCase):
    def test_the_examples_of_the_document(self):
        for rule, value, told in [
            (("some", 1, ("cut", 1)), (2, False, "b", "b"), (("b", "c"),)),
            (("many", 2, ("beyond", 1)), (2, 0, "ba", "c"), (("ba", "ca"),)),
            (("many", 6, ("cut", 6)), (2, 0, "bac", "bb"), (("bac", "baca"), ("bb", "bba"))),
            (("many", 6, ("cut", 6)), (3, 0, "bac", "bb"), (("bac", "bba"),)),
            (("many", 6, ("cut", 6)), (2, 0, "b", "bb"), (("b", "ba"), ("bb", "bba"))),
            (("many", 1, ("cut", 6)), (2, 0, "b", "bb"), (("b", "bba"),)),
        ]:
            self.assertEqual(texts_of(rule, value), told)
            self.assertEqual(texts_of(note=value, rule=rule), told)

    def test_one_text_two_and_more(self):
        for lacks, many in ((0, 1), (3, 4), (BIG_COUNT - 1, BIG_COUNT)):
            self.assertEqual(texts_of(("many", 1, ("cut", 2)), (many, lacks, "a", "ab")), (("ab", "ac"),))
            self.assertEqual(texts_of(("many", 1, ("cut", 2)), (many, lacks, "a", "a")), (("a", "aa"),))
        for lacks, many in ((0, 2), (3, 5), (BIG_COUNT - 2, BIG_COUNT)):
            self.assertEqual(texts_of(("many", 1, ("cut", 2)), (many, lacks, "a", "bb")), (("a", "b"), ("bb", "bc")))
            self.assertEqual(texts_of(("many", 1, ("cut", 2)), (many, lacks, "a", "ab")), (("a", "ac"),))
        for lacks, many in ((0, 3), (3, 6), (0, BIG_COUNT), (7, BIG_COUNT)):
            self.assertEqual(texts_of(("many", 1, ("cut", 2)), (many, lacks, "a", "bb")), (("a", "bc"),))

    def test_several_numbers_of_texts_are_possible(self):
        # Two values, one of them None; three values, so that there is one text or there are two.
        self.assertEqual(texts_of(("some", 1, ("cut", 1)), (2, True, "a", "a")), (("a", "b"),))
        self.assertEqual(texts_of(("some", 1, ("cut", 1)), (3, True, "a", "c")), (("a", "b"), ("c", None)))
        self.assertEqual(texts_of(("some", 1, ("cut", 1)), (4, True, "a", "c")), (("a", None),))
        self.assertEqual(texts_of(("hidden", 1, ("cut", 1)), (2, None, "a", "c")), (("a", "b"), ("c", None)))
        self.assertEqual(texts_of(("hidden", 1, ("cut", 1)), (3, None, "a", "c")), (("a", None),))
        self.assertEqual(texts_of(("hidden", 2, ("cut", 1)), (1, None, "a", "a")), (("a", "aa"),))
        self.assertEqual(texts_of(("hidden", 0, ("beyond", 1)), (1, None, "", "b")), (("aa", "ba"),))
        self.assertEqual(texts_of(("hidden", "lost", ("beyond", 1)), (1, None, None, None)), (("ca", None),))
        self.assertEqual(texts_of(("hidden", "lost", ("beyond", 1)), (2, None, None, None)), EVERY_TEXT)

    def test_pages_without_a_text(self):
        self.assertEqual(texts_of(("many", 1, ("cut", 1)), (2, 2, None, None)), ())
        self.assertEqual(texts_of(("some", 1, ("cut", 1)), (2, True, None, None)), ())
        self.assertEqual(texts_of(("hidden", 1, "lost"), (2, None, None, None)), ())
        self.assertEqual(texts_of(("many", "lost", "lost"), (2, 2, None, None)), ())
        self.assertEqual(texts_of(("some", "lost", "lost"), (1, True, None, None)), ())
        self.assertEqual(texts_of(("many", "lost", "lost"), (2, 1, None, None)), EVERY_TEXT)
        self.assertEqual(texts_of(("some", "lost", "lost"), (2, True, None, None)), EVERY_TEXT)

    def test_high_bounds_beyond(self):
        for letters, high, told in [
            (0, "", (("", "a"),)), (0, None, (("a", None),)), (1, "a", (("a", "aa"),)), (1, "b", (("aa", "ba"),)),
            (1, "c", (("ba", "ca"),)), (1, None, (("ca", None),)), (2, "", (("", "a"),)), (2, "a", (("a", "aa"),)),
            (2, "b", (("aca", "ba"),)), (2, "ab", (("aaa", "aba"),)), (2, "ca", (("ca", "caa"),)),
            (2, "cc", (("cba", "cca"),)), (2, None, (("cca", None),)), (3, "c", (("bcca", "ca"),)),
            (6, "bc", (("bbcccca", "bca"),)), (6, "ccccca", (("ccccca", "cccccaa"),)),
            (6, "cccccb", (("cccccaa", "cccccba"),)), (6, None, (("cccccca", None),)),
        ]:
            with self.subTest(letters=letters, high=high):
                self.assertEqual(texts_of(("many", "lost", ("beyond", letters)), (1, 0, None, high)), told)
                self.assertEqual(texts_of(("many", "lost", ("beyond", letters)), (7, 0, None, high)),
                                 (("", told[0][1]),))

    def test_against_all_small_pages(self):
        for rule in RULES:
            for told, pages in pages_by_note(rule).items():
                value = plain(told)
                stand = {text for page in pages for text in page if text is not None}
                self.assertEqual(texts_of(rule, value), span_told(stand), (rule, value))

    def test_against_small_pages_by_longer_rules(self):
        texts = [text for text in TEXTS if len(text) < 4]
        sorted_texts = sorted(texts)
        for rule in (("many", 2, ("beyond", 2)), ("some", 2, ("cut", 2)), ("hidden", 1, ("beyond", 2)),
                     ("hidden", 2, ("beyond", 1)), ("some", "lost", ("beyond", 2)), ("many", 2, ("cut", 0))):
            stand = {}
            for page in itertools.chain(([text] for text in texts), itertools.combinations(sorted_texts, 2),
                                        ((None, text) for text in texts), ((text, text) for text in texts)):
                stand.setdefault(kinds(told_note(rule, list(page))), set()).update(page)
            for told, values in stand.items():
                self.assertEqual(texts_of(rule, plain(told)), span_told(values - {None}, sorted_texts), (rule, told))

    def test_counts_of_many_digits(self):
        for rule in RULES:
            for told in pages_by_note(rule):
                many, lacks, low, high = plain(told)
                if many == 4 and rule[0] != "many":
                    self.assertEqual(texts_of(rule, (BIG_COUNT, lacks, low, high)),
                                     texts_of(rule, (4, lacks, low, high)))
                if rule[0] == "many":
                    self.assertEqual(texts_of(rule, (BIG_COUNT + many, BIG_COUNT + lacks, low, high)),
                                     texts_of(rule, (many, lacks, low, high)))


class TestLackingOf(unittest.TestCase):
    def test_ordinary_notes(self):
        for rule, value, told in [
            (("many", 1, ("cut", 1)), (3, 1, "a", "b"), (1, 1)),
            (("many", 1, ("cut", 1)), (3, 0, "a", "b"), (0, 0)),
            (("many", 1, ("cut", 1)), (3, 3, None, None), (3, 3)),
            (("some", 1, ("cut", 1)), (3, False, "a", "b"), (0, 0)),
            (("some", 1, ("cut", 1)), (3, True, "a", "b"), (1, 1)),
            (("some", 1, ("cut", 1)), (3, True, "a", "a"), (1, 2)),
            (("some", 1, ("cut", 1)), (3, True, None, None), (3, 3)),
            (("some", "lost", "lost"), (3, True, None, None), (1, 3)),
            (("hidden", 1, ("cut", 1)), (3, None, "a", "b"), (0, 1)),
            (("hidden", 1, ("cut", 1)), (3, None, "a", "a"), (0, 2)),
            (("hidden", 1, ("cut", 1)), (3, None, None, None), (3, 3)),
            (("hidden", "lost", "lost"), (3, None, None, None), (0, 3)),
            (("hidden", "lost", ("beyond", 2)), (3, None, None, None), (0, 3)),
            (("hidden", 2, ("beyond", 2)), (3, None, "a", None), (0, 1)),
            (("hidden", 2, ("beyond", 2)), (3, None, "cc", None), (0, 2)),
            (("hidden", 2, ("beyond", 2)), (2, None, "aa", "b"), (0, 0)),
            (("hidden", 2, ("beyond", 2)), (2, None, "ac", "b"), (0, 1)),
        ]:
            with self.subTest(rule=rule, value=value):
                self.assertEqual(lacking_of(rule, value), told)
                self.assertEqual(lacking_of(note=value, rule=rule), told)

    def test_against_all_small_pages(self):
        for rule in RULES:
            for told, pages in pages_by_note(rule).items():
                counts = [page.count(None) for page in pages]
                self.assertEqual(lacking_of(rule, plain(told)), (min(counts), max(counts)), (rule, told))

    def test_counts_of_many_digits(self):
        self.assertEqual(lacking_of(("many", 0, "lost"), (BIG_COUNT, BIG_COUNT - 9, "", None)),
                         (BIG_COUNT - 9, BIG_COUNT - 9))
        self.assertEqual(lacking_of(("some", 0, "lost"), (BIG_COUNT, True, "", None)), (1, BIG_COUNT - 1))
        self.assertEqual(lacking_of(("some", 1, ("cut", 1)), (BIG_COUNT, True, "", "a")), (1, BIG_COUNT - 2))
        self.assertEqual(lacking_of(("some", 1, ("cut", 1)), (BIG_COUNT, False, "", "a")), (0, 0))
        self.assertEqual(lacking_of(("hidden", 1, ("cut", 1)), (BIG_COUNT, None, "", "a")), (0, BIG_COUNT - 2))
        self.assertEqual(lacking_of(("hidden", 1, ("cut", 1)), (BIG_COUNT, None, None, None)), (BIG_COUNT, BIG_COUNT))
        self.assertEqual(lacking_of(("hidden", "lost", "lost"), (BIG_COUNT, None, None, None)), (0, BIG_COUNT))

    def test_none_and_texts_together_fill_the_pages(self):
        for rule in RULES:
            for told in pages_by_note(rule):
                value = plain(told)
                least, most = lacking_of(rule, value)
                self.assertTrue(0 <= least <= most <= value[0])
                self.assertIs(texts_of(rule, value) == (), least == value[0])


class TestErrors(RefusalTest):
    def test_wrong_rules(self):
        for wrong in NO_RULES + NO_TEXTS + BIG + [errors.InvalidRule("a")]:
            for value in ((2, 0, "a", "b"), None, ()):
                self.refused(InvalidRule, is_note, wrong, value)
                self.refused(InvalidRule, is_note, value=value, rule=wrong)

    def test_wrong_rules_and_notes(self):
        rules = NO_RULES + NO_TEXTS + BIG + [errors.InvalidRule("a")]
        notes = NO_NOTES + NO_TEXTS + BIG + [errors.InvalidNote("a")]
        for function in (texts_of, lacking_of):
            for rule in (("many", 1, ("cut", 1)), ("many", 6, ("cut", 6))):
                self.refuses(function, [("rule", rule, InvalidRule, rules),
                                        ("note", (2, 0, "a", "b"), InvalidNote, notes)])

    def test_notes_by_another_rule(self):
        for rule, value in [
            (("some", 1, ("cut", 1)), (2, 0, "a", "b")), (("hidden", 1, ("cut", 1)), (2, False, "a", "b")),
            (("many", 1, ("cut", 1)), (2, None, "a", "b")), (("many", 0, ("cut", 1)), (2, 0, "a", "b")),
            (("many", "lost", ("cut", 1)), (2, 0, "a", "b")), (("many", 1, "lost"), (2, 0, "a", "b")),
            (("many", 1, ("beyond", 0)), (2, 0, "a", "b")), (("many", 1, ("cut", 1)), (2, 0, "a", None)),
            (("many", 2, ("beyond", 2)), (1, 0, "ab", "b")),
        ]:
            for function in (texts_of, lacking_of):
                self.refused(InvalidNote, function, rule, value)
                self.refused(InvalidNote, function, note=value, rule=rule)


if __name__ == "__main__":
    unittest.main()
