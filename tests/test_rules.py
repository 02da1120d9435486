"""[5], [6], [12]: pages, rules, and the note of a page."""

import unittest

from pageskips import errors
from pageskips.errors import InvalidPage, InvalidRule
from pageskips.notes import is_note, is_page, is_rule, note
from tests.note_model import ALL_RULES, NO_PAGE_VALUES, NO_PAGES, NO_RULES, PAGES, RULES, kinds, told_note
from tests.refusals import RefusalTest
from tests.samples import BIG, NO_TEXTS, TEXTS

RIGHT = ["a"] * 19999
NO_STRUCTURES = [value for value in BIG if value != RIGHT]


class TestIsRule(unittest.TestCase):
    def test_all_rules(self):
        self.assertEqual(len(ALL_RULES), 3 * 8 * 15)
        for rule in ALL_RULES:
            self.assertIs(is_rule(rule), True)
            self.assertIs(is_rule(value=rule), True)

    def test_each_part_changed(self):
        for value in NO_RULES:
            with self.subTest(value=value):
                self.assertIs(is_rule(value), False)

    def test_truths_are_no_numbers(self):
        for wrong in (True, False):
            self.assertIs(is_rule(("many", int(wrong), ("cut", int(wrong)))), True)
            self.assertIs(is_rule(("many", wrong, ("cut", 1))), False)
            self.assertIs(is_rule(("many", 1, ("cut", wrong))), False)
            self.assertIs(is_rule(("many", 1, ("beyond", wrong))), False)

    def test_other_values(self):
        for value in NO_TEXTS + BIG + TEXTS[:20]:
            self.assertIs(is_rule(value), False)
            numbers = type(value) is int and 0 <= value <= 6
            self.assertIs(is_rule(("many", value, "lost")), numbers)
            self.assertIs(is_rule(("many", 1, ("cut", value))), numbers)
            self.assertIs(is_rule((value, 1, "lost")), False)
            self.assertIs(is_rule(("many", 1, value)), False)


class TestIsPage(unittest.TestCase):
    def test_pages(self):
        for page in PAGES[::7] + [["a"], [None], [None, None], [""], ["b", "a", None, "a"], RIGHT, [None] * 20000,
                                  ["abc" * 2000], ["a"] * 13]:
            self.assertIs(is_page(page), True)
            self.assertIs(is_page(value=page), True)

    def test_other_values(self):
        for value in NO_PAGES + NO_STRUCTURES + NO_RULES:
            with self.subTest(value=repr(value)[:60]):
                self.assertIs(is_page(value), False)
        for value in [value for value in NO_TEXTS if value not in (["a"], [None])]:
            self.assertIs(is_page(value), False)

    def test_one_wrong_value_at_each_place(self):
        page = ["a", None, "", "bc", None, "cab"] * 12
        for at in range(len(page)):
            for wrong in NO_PAGE_VALUES:
                self.assertIs(is_page(page[:at] + [wrong] + page[at + 1:]), False)
        self.assertIs(is_page(page), True)
        long = [None, "ab"] * 9000
        for at in (0, 1, 9000, 17999):
            self.assertIs(is_page(long[:at] + ["d"] + long[at + 1:]), False)
        self.assertIs(is_page(tuple(long)), False)


class TestNote(unittest.TestCase):
    def same(self, told, wanted):
        """Whether two notes are equal, and of equal kinds."""
        self.assertEqual(told, wanted)
        self.assertIs(type(told), tuple)
        self.assertEqual(kinds(told), kinds(wanted))

    def test_the_examples_of_the_document(self):
        self.same(note(("some", 1, ("cut", 1)), ["bac", "bb"]), (2, False, "b", "b"))
        self.same(note(("many", 2, ("beyond", 1)), ["bac", "bb"]), (2, 0, "ba", "c"))
        self.same(note(("many", 6, ("cut", 6)), ["bac", "bb"]), (2, 0, "bac", "bb"))
        self.same(note(("many", 1, ("cut", 6)), ["bac", "bb"]), (2, 0, "b", "bb"))
        self.same(note(("hidden", 1, ("beyond", 0)), [None, ""]), (2, None, "", ""))

    def test_each_word_of_lacks(self):
        for page, lacking in ((["a"], 0), ([None], 1), (["a", None], 1), ([None, "a", None], 2), ([None] * 3, 3)):
            for low, high in ((0, ("cut", 0)), ("lost", "lost"), (6, ("beyond", 6))):
                self.assertIs(type(note(("many", low, high), page)[1]), int)
                self.assertEqual(note(("many", low, high), page)[1], lacking)
                self.assertIs(note(("some", low, high), page)[1], lacking > 0)
                self.assertIs(note(("hidden", low, high), page)[1], None)

    def test_each_number_of_letters(self):
        page = ["abcabcab", "bcabcabc", None, "cbacbacb", "bbbb"]
        for many in range(7):
            self.same(note(("many", many, ("cut", many)), page), (5, 1, "abcabc"[:many], "cbacba"[:many]))
        for many, high in enumerate([None, None, "cc", "cbb", "cbb", "cbacc", "cbacbb"]):
            self.same(note(("some", many, ("beyond", many)), page), (5, True, "abcabc"[:many], high))

    def test_texts_shorter_than_the_number_as_long_and_longer(self):
        for text, cut, high in (("", "", ""), ("b", "b", "b"), ("ba", "ba", "ba"), ("bab", "ba", "bb"),
                                ("bac", "ba", "bb"), ("bc", "bc", "bc"), ("bca", "bc", "c"), ("cb", "cb", "cb"),
                                ("cba", "cb", "cc"), ("cc", "cc", "cc"), ("cca", "cc", None), ("ccc", "cc", None)):
            self.same(note(("many", 2, ("cut", 2)), [text]), (1, 0, cut, cut))
            self.same(note(("many", 2, ("beyond", 2)), [text]), (1, 0, cut, high))

    def test_a_greatest_text_whose_first_letters_are_all_c(self):
        for many in range(7):
            for text, high in (("c" * many, "c" * many), ("c" * many + "a", None), ("c" * (many + 3), None)):
                self.same(note(("hidden", "lost", ("beyond", many)), ["", text, "c" * (many // 2)]),
                          (3, None, None, high))
        self.same(note(("many", 0, ("beyond", 3)), ["accc", "a"]), (2, 0, "", "b"))
        self.same(note(("many", 0, ("beyond", 3)), ["bacc"]), (1, 0, "", "bb"))

    def test_no_letters_at_all(self):
        for way in ("cut", "beyond"):
            self.same(note(("many", 0, (way, 0)), ["", None]), (2, 1, "", ""))
            self.same(note(("many", 0, (way, 0)), [None]), (1, 1, None, None))
        self.same(note(("many", 0, ("cut", 0)), ["", "a"]), (2, 0, "", ""))
        self.same(note(("many", 0, ("beyond", 0)), ["", "a"]), (2, 0, "", None))

    def test_lost_bounds(self):
        page = ["b", None, "ab"]
        self.same(note(("some", "lost", ("cut", 6)), page), (3, True, None, "b"))
        self.same(note(("some", 6, "lost"), page), (3, True, "ab", None))
        self.same(note(("some", "lost", "lost"), page), (3, True, None, None))

    def test_pages_without_a_text(self):
        for rule in ALL_RULES:
            lacks = {"many": 2, "some": True, "hidden": None}[rule[0]]
            self.same(note(rule, [None, None]), (2, lacks, None, None))

    def test_small_pages_by_all_small_rules(self):
        for rule in RULES:
            for page in PAGES[::2]:
                told = note(rule, page[::-1])
                self.assertEqual(kinds(told), kinds(told_note(rule, page)), (rule, page))
                self.assertIs(is_note(rule, told), True)

    def test_pages_by_all_rules(self):
        pages = [TEXTS[at::31] + [None] * (at // 9) for at in range(0, 31, 3)]
        pages += [["ccccccc", "ac"], ["c" * 6, "a" * 7], ["bcccccc", "accccc", None], ["abcabca"], ["cccccb", ""]]
        for rule in ALL_RULES:
            for page in pages:
                self.assertEqual(kinds(note(rule, page)), kinds(told_note(rule, page)), (rule, page))

    def test_long_pages_and_long_texts(self):
        page = ["b", None] * 10000
        self.same(note(("many", 1, ("cut", 1)), page), (20000, 10000, "b", "b"))
        self.same(note(("some", 6, ("beyond", 6)), ["c" * 8000, "ab" * 4000]), (2, False, "ababab", None))

    def test_the_page_stays_as_it_was_and_is_not_kept(self):
        page = ["b", None, "a"]
        told = note(page=page, rule=("many", 1, ("cut", 1)))
        self.assertEqual(page, ["b", None, "a"])
        page[1] = "c"
        self.same(told, (3, 1, "a", "b"))
        self.same(note(("many", 1, ("cut", 1)), page), (3, 0, "a", "c"))


class TestErrors(RefusalTest):
    def test_wrong_rules_and_pages(self):
        rules = NO_RULES + NO_TEXTS + BIG + [errors.InvalidRule("a")]
        pages = NO_PAGES + NO_STRUCTURES + [errors.InvalidPage("a")]
        self.refuses(note, [("rule", ("many", 1, ("cut", 1)), InvalidRule, rules),
                            ("page", ["a", None], InvalidPage, pages)])


if __name__ == "__main__":
    unittest.main()
