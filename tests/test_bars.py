"""[7], [8], [12]: what notes bar and grant, and the pages that show that they do not bar."""

import unittest

from pageskips import errors
from pageskips.errors import InvalidFilter, InvalidNote, InvalidRule
from pageskips.filters import selection
from pageskips.notes import bars, grants, is_note, is_page, lacking_of, note, page_for, texts_of
from pageskips.spans import opposite, shared
from tests.note_model import (ALL_RULES, BIG_COUNT, NO_NOTES, NO_RULES, RULES, kinds, pages_by_note, plain, told_note,
                              values_by_note)
from tests.refusals import RefusalTest
from tests.samples import BIG, NO_FILTERS, NO_TEXTS, SOME_FILTERS, chance_filters, told_answer

# Small pages stand for all of them to filters with texts of at most one letter.
SMALL_FILTERS = [(word, text) for word in ("is", "below", "above", "begins") for text in ("", "a", "b", "c")]
SMALL_FILTERS += [("none",), ("say", True), ("say", False), ("among", ()), ("among", ("a", "c")), ("and", ()),
                  ("or", ()),
                  ("not", ("none",)), ("not", ("is", "b")), ("not", ("begins", "b")), ("or", (("none",), ("is", "a"))),
                  ("or", (("none",), ("begins", "c"))), ("or", (("none",), ("begins", ""))),
                  ("and", (("not", ("none",)), ("above", "a"))), ("and", (("above", "a"), ("below", "b"))),
                  ("or", (("is", ""), ("above", "c"))), ("not", ("or", (("none",), ("below", "b"))))]


def some_notes(rules):
    """Notes of small pages and of some with longer texts."""
    pages = [["bac", "bb"], ["bac"], [None, "cca"], ["a", "ab", "acc"], ["", "ccccccc"], ["abcabca", None, "abcabc"],
             [None, None], ["c" * 6, "c" * 7, "c" * 8], ["bcb", None, None, "b", "aaaa"], ["abc"] * 12]
    return [(rule, told_note(rule, page)) for rule in rules for page in pages]


class TestBarsAndGrants(unittest.TestCase):
    def check(self, rule, value, barred, granted, neither=()):
        for queries, told in ((barred, (True, False)), (granted, (False, True)), (neither, (False, False))):
            for query in queries:
                with self.subTest(rule=rule, value=value, query=query):
                    self.assertEqual((bars(rule, value, query), grants(rule, value, query)), told)
                    self.assertIs(bars(query=query, note=value, rule=rule), told[0])
                    self.assertIs(grants(query=query, note=value, rule=rule), told[1])

    def test_the_examples_of_the_document(self):
        self.check(("some", 1, ("cut", 1)), (2, False, "b", "b"), [("is", "c"), ("none",)], [("begins", "b")],
                   [("is", "bac"), ("is", "b")])
        self.check(("many", 6, ("cut", 6)), (2, 0, "bac", "bb"), [("is", "baca"), ("is", "b"), ("above", "bb")],
                   [("among", ("bac", "bb")), ("begins", "b")], [("is", "bac"), ("is", "bb")])
        self.check(("many", 1, ("cut", 6)), (2, 0, "b", "bb"), [("is", "a"), ("above", "bb")], [("begins", "b")],
                   [("is", "bac"), ("is", "baca"), ("is", "b")])

    def test_the_example_of_none_alone(self):
        """[8] F5: by the maker the texts of the note can be one, by the belief they are two."""
        maker, belief = ("hidden", 0, "lost"), ("hidden", 1, ("beyond", 0))
        made = note(maker, [None, ""])
        self.assertEqual(made, (2, None, "", None))
        self.check(maker, made, [("say", False)], [("say", True)], [("none",), ("begins", ""), ("is", "")])
        self.check(belief, made, [("none",), ("say", False)], [("say", True), ("not", ("none",)), ("begins", "")],
                   [("is", ""), ("is", "b"), ("above", "")])
        self.assertEqual(lacking_of(belief, made), (0, 0))

    def test_notes_of_pages_with_one_text_two_and_more(self):
        rule = ("many", 2, ("beyond", 1))
        self.check(rule, (1, 0, "ab", "b"), [("is", "a"), ("is", "b"), ("is", "ac"), ("none",)],
                   [("begins", "ab"), ("not", ("none",))], [("is", "abc"), ("is", "ab")])
        self.check(rule, (2, 0, "ab", "c"), [("is", "a"), ("is", "aa"), ("above", "c")],
                   [("above", "aa"), ("not", ("is", "a"))], [("is", "ab"), ("is", "c"), ("is", "ba"), ("begins", "b")])
        self.check(rule, (2, 0, "ab", "c"), [("is", "ac"), ("is", "b")], [("not", ("is", "b"))])
        self.check(rule, (3, 0, "ab", "c"), [("is", "aa"), ("above", "c")], [("above", "aa")],
                   [("is", "ac"), ("is", "b"), ("not", ("is", "b"))])
        self.check(rule, (4, 3, "ab", "b"), [("is", "ac"), ("is", "b")], [],
                   [("none",), ("begins", "ab"), ("not", ("none",))])
        self.check(rule, (4, 3, "ab", "b"), [], [("or", (("none",), ("begins", "ab")))])

    def test_notes_with_several_possible_numbers_of_texts(self):
        for lacks in ("some", "hidden"):
            rule = (lacks, 1, ("cut", 1))
            told = {"some": True, "hidden": None}[lacks]
            self.check(rule, (3, told, "a", "c"), [], [], [("none",), ("begins", "a"), ("not", ("none",))])
        self.check(("some", 1, ("cut", 1)), (3, True, "a", "c"), [("begins", "b")], [])
        self.check(("some", 1, ("cut", 1)), (4, True, "a", "c"), [], [], [("begins", "b")])
        self.check(("hidden", 1, ("cut", 1)), (3, None, "a", "c"), [], [], [("begins", "b")])
        self.check(("hidden", 1, ("cut", 1)), (2, None, "a", "c"), [("begins", "b"), ("none",)],
                   [("not", ("begins", "b")), ("not", ("none",))])
        self.check(("hidden", 1, ("cut", 1)), (2, None, "a", "a"), [], [], [("none",), ("is", "a")])
        self.check(("hidden", 1, ("cut", 1)), (1, None, "a", "a"), [("none",)], [("not", ("none",))])

    def test_none_answers_open(self):
        """None passes neither a filter of texts nor its "not", so such a filter is not granted."""
        for query in (("is", "a"), ("not", ("is", "a")), ("begins", ""), ("among", ())):
            self.check(("many", 1, ("cut", 1)), (2, 2, None, None), [query], [])
            self.check(("hidden", 1, ("cut", 1)), (2, None, None, None), [query], [])
            self.assertIs(grants(("many", 1, ("cut", 1)), (2, 1, "a", "a"), query), False)
        self.check(("many", 1, ("cut", 1)), (2, 0, "a", "a"), [], [("begins", "")])
        self.check(("many", 1, ("cut", 1)), (2, 1, "a", "a"), [], [], [("begins", "")])

    def test_pages_of_none_alone(self):
        for rule in ALL_RULES[::3]:
            value = note(rule, [None, None])
            if rule[0] != "many" and rule[1] == "lost" and (rule[2] == "lost" or rule[2][0] == "beyond"):
                self.check(rule, value, [("say", False)], [("say", True)], [("none",), ("above", "ccccccc")])
            else:
                self.check(rule, value, [("say", False), ("begins", "")], [("none",), ("say", True)])

    def test_no_bounds(self):
        rule = ("many", "lost", "lost")
        self.check(rule, (3, 0, None, None), [("none",), ("say", False), ("among", ())],
                   [("begins", ""), ("say", True)],
                   [("is", "a"), ("not", ("is", "cccccccc"))])
        self.check(rule, (3, 1, None, None), [("say", False)], [("say", True)], [("none",), ("begins", "")])

    def test_against_all_small_pages(self):
        for rule in RULES:
            for told, values in values_by_note(rule).items():
                value = plain(told)
                for query in SMALL_FILTERS:
                    answers = [told_answer(query, one) == "yes" for one in values]
                    self.assertIs(bars(rule, value, query), not any(answers), (rule, value, query))
                    self.assertIs(grants(rule, value, query), all(answers), (rule, value, query))

    def test_they_go_with_texts_of_and_lacking_of(self):
        for rule, value in some_notes(ALL_RULES[::7]):
            texts = texts_of(rule, value)
            some_lack = lacking_of(rule, value)[1] > 0
            for query in SOME_FILTERS[::3]:
                lacking, passing = selection(query)
                self.assertIs(bars(rule, value, query),
                              shared(texts, passing) == () and not (some_lack and lacking == "yes"))
                self.assertIs(grants(rule, value, query),
                              shared(texts, opposite(passing)) == () and (lacking == "yes" or not some_lack))

    def test_no_note_both_bars_and_grants(self):
        for rule, value in some_notes(ALL_RULES[::5]):
            for query in SOME_FILTERS[::4]:
                self.assertFalse(bars(rule, value, query) and grants(rule, value, query))
                self.assertIs(bars(rule, value, query) and not grants(rule, value, query), bars(rule, value, query))

    def test_counts_of_many_digits(self):
        self.check(("many", 1, ("cut", 1)), (BIG_COUNT, BIG_COUNT - 2, "a", "c"), [("begins", "b")], [],
                   [("none",), ("begins", "a")])
        self.check(("many", 1, ("cut", 1)), (BIG_COUNT, BIG_COUNT - 3, "a", "c"), [("is", "")], [], [("begins", "b")])
        self.check(("many", 1, ("cut", 1)), (BIG_COUNT, 0, "a", "c"), [("is", ""), ("none",)], [("above", "")],
                   [("begins", "b")])
        self.check(("many", 1, ("cut", 1)), (BIG_COUNT, BIG_COUNT, None, None), [("begins", "")], [("none",)])
        self.check(("hidden", 1, ("cut", 1)), (BIG_COUNT, None, "a", "c"), [("is", "")], [], [("none",), ("is", "b")])
        self.check(("some", 6, ("beyond", 6)), (10 ** 31 - 1, False, "a", None), [("none",)], [("above", "")])


class TestPageFor(unittest.TestCase):
    def check(self, rule, value, query):
        """A page is told just if the note does not bar the filter, and it shows this."""
        page = page_for(rule, value, query)
        self.assertEqual(page_for(query=query, note=value, rule=rule), page)
        self.assertIs(page is None, bars(rule, value, query), (rule, value, query))
        if page is not None:
            self.assertIs(is_page(page), True)
            self.assertEqual(kinds(told_note(rule, page)), kinds(value), (rule, value, query, page))
            self.assertEqual(kinds(note(rule, page)), kinds(value))
            self.assertIn("yes", [told_answer(query, one) for one in page], (rule, value, query, page))

    def test_all_small_notes(self):
        for rule in RULES:
            for told in pages_by_note(rule):
                for query in SMALL_FILTERS[::2]:
                    self.check(rule, plain(told), query)

    def test_notes_by_all_rules(self):
        queries = SMALL_FILTERS[::4] + chance_filters(60, 3)[::4]
        for rule, value in some_notes(ALL_RULES[::3]):
            for query in queries:
                self.check(rule, value, query)

    def test_filters_that_only_none_passes(self):
        for rule, value, some in [
            (("many", 1, ("cut", 1)), (2, 0, "a", "b"), False), (("many", 1, ("cut", 1)), (3, 1, "a", "b"), True),
            (("some", 1, ("cut", 1)), (3, True, "a", "b"), True),
            (("some", 1, ("cut", 1)), (3, False, "a", "b"), False),
            (("hidden", 1, ("cut", 1)), (3, None, "a", "b"), True),
            (("hidden", 1, ("cut", 1)), (2, None, "a", "b"), False),
            (("hidden", 1, ("cut", 1)), (2, None, "a", "a"), True),
            (("hidden", 1, ("cut", 1)), (1, None, "a", "a"), False),
            (("hidden", 1, ("cut", 1)), (1, None, None, None), True), (("many", 0, "lost"), (2, 2, None, None), True),
            (("hidden", "lost", "lost"), (12, None, None, None), True),
        ]:
            for query in (("none",), ("and", (("none",), ("say", True))), ("not", ("not", ("none",)))):
                self.assertIs(page_for(rule, value, query) is not None, some, (rule, value))
                self.check(rule, value, query)

    def test_filters_that_one_text_alone_passes(self):
        for rule, value, text in [
            (("many", 1, ("cut", 1)), (1, 0, "a", "a"), "abcabc"), (("many", 1, ("cut", 1)), (2, 0, "a", "b"), "accc"),
            (("many", 1, ("cut", 1)), (2, 0, "a", "b"), "bccc"), (("many", 1, ("cut", 1)), (3, 0, "a", "c"), "bbb"),
            (("some", 1, ("cut", 1)), (4, True, "a", "c"), "b"), (("hidden", 1, ("cut", 1)), (3, None, "a", "c"), "b"),
            (("hidden", "lost", "lost"), (1, None, None, None), "cab"),
            (("many", 2, ("beyond", 1)), (2, 0, "ab", "c"), "c"),
            (("many", 2, ("beyond", 1)), (2, 0, "ab", "c"), "bccccc"), (("many", 0, "lost"), (12, 11, "", None), "cc"),
            (("many", 6, ("cut", 6)), (2, 0, "bac", "bb"), "bb"), (("many", 6, ("cut", 6)), (2, 0, "bac", "bb"), "bac"),
        ]:
            self.assertIn(text, page_for(rule, value, ("is", text)))
            self.check(rule, value, ("is", text))
        for rule, value, text in [
            (("many", 1, ("cut", 1)), (2, 0, "a", "c"), "b"), (("hidden", 1, ("cut", 1)), (2, None, "a", "c"), "b"),
            (("many", 6, ("cut", 6)), (2, 0, "bac", "bb"), "baca"),
            (("many", 2, ("beyond", 1)), (2, 0, "ab", "c"), "b"),
            (("many", 1, ("cut", 1)), (1, 0, "a", "a"), "b"), (("many", 1, ("cut", 1)), (2, 2, None, None), ""),
        ]:
            self.assertIs(page_for(rule, value, ("is", text)), None)
            self.check(rule, value, ("is", text))

    def test_filters_that_texts_at_the_ends_of_ranges_pass(self):
        rule = ("many", 1, ("cut", 1))
        for many, lacks in ((2, 0), (3, 0), (12, 9)):
            for query in (("is", "a"), ("below", "aa"), ("begins", "acccccc"), ("above", "bccccc"), ("is", "b"),
                          ("and", (("not", ("below", "b")), ("below", "ba"))), ("below", "a"), ("above", "c")):
                self.check(rule, (many, lacks, "a", "b"), query)
        self.assertIs(page_for(rule, (3, 0, "a", "b"), ("below", "a")), None)
        self.assertIs(page_for(rule, (3, 0, "a", "b"), ("not", ("below", "c"))), None)
        rule = ("many", "lost", ("beyond", 2))
        for value in ((1, 0, None, "b"), (2, 0, None, "b"), (4, 1, None, "b"), (1, 0, None, None), (3, 0, None, None)):
            for query in (("is", "aca"), ("is", "ac"), ("is", "b"), ("is", "ba"), ("above", "accc"), ("is", "cca"),
                          ("is", "cc"), ("above", "ccc"), ("is", ""), ("below", "aca"), ("above", "b")):
                self.check(rule, value, query)
        self.assertEqual(page_for(rule, (1, 0, None, "b"), ("is", "aca")), ["aca"])
        self.assertIs(page_for(rule, (1, 0, None, "b"), ("is", "ac")), None)
        self.assertEqual(page_for(rule, (1, 0, None, None), ("not", ("above", "cca"))), ["cca"])

    def test_returned_lists_are_new(self):
        rule, value = ("many", 1, ("cut", 1)), (3, 1, "a", "b")
        for query in (("none",), ("is", "b"), ("say", True)):
            page = page_for(rule, value, query)
            other = page_for(rule, value, query)
            self.assertEqual(page, other)
            self.assertIsNot(page, other)
            page.append("c")
            page[0] = "ccc"
            self.assertEqual(page_for(rule, value, query), other)

    def test_more_values_than_the_limit(self):
        for lacks, told in (("many", 0), ("some", False), ("hidden", None), ("some", True), ("many", 4000)):
            page = page_for((lacks, 1, ("cut", 1)), (5000, told, "a", "c"), ("is", "bb"))
            self.assertEqual(len(page), 5000)
            self.assertEqual(kinds(told_note((lacks, 1, ("cut", 1)), page)), kinds((5000, told, "a", "c")))
            self.assertIn("bb", page)


class TestReadersWhoKnowTheRule(unittest.TestCase):
    def test_what_they_do_not_skip_can_pass(self):
        """[8] F4: what they skip has no value that passes, for the rest some page has one."""
        for rule in RULES[::4]:
            for told, pages in pages_by_note(rule).items():
                for query in SMALL_FILTERS[::5]:
                    barred = bars(rule, plain(told), query)
                    passing = [page for page in pages if "yes" in [told_answer(query, value) for value in page]]
                    self.assertIs(barred, passing == [])


class TestErrors(RefusalTest):
    def test_wrong_arguments(self):
        rules = NO_RULES + NO_TEXTS + BIG + [errors.InvalidRule("a")]
        notes = NO_NOTES + NO_TEXTS + BIG + [errors.InvalidNote("a")]
        queries = NO_FILTERS + [value for value in NO_TEXTS if value != ("is", "a")] + BIG
        for function in (bars, grants, page_for):
            for query in (("is", "a"), ("none",)):
                self.refuses(function, [("rule", ("many", 1, ("cut", 1)), InvalidRule, rules),
                                        ("note", (2, 0, "a", "b"), InvalidNote, notes),
                                        ("query", query, InvalidFilter, queries)])

    def test_the_rule_decides_what_is_a_note(self):
        for function in (bars, grants, page_for):
            self.refused(InvalidNote, function, ("some", 1, ("cut", 1)), (2, 0, "a", "b"), ("none",))
            self.refused(InvalidNote, function, ("many", 1, ("cut", 0)), (2, 0, "a", "b"), None)
            self.refused(InvalidFilter, function, ("many", 1, ("cut", 1)), (2, 0, "a", "b"), None)
            self.assertIs(is_note(("many", 1, ("cut", 1)), (2, 0, "a", "b")), True)


if __name__ == "__main__":
    unittest.main()
