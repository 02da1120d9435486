"""[7], [8], [16]: scans, what they tell and how many pages they read."""

import random
import unittest

from pageskips import errors
from pageskips.columns import Column
from pageskips.errors import InvalidFilter, InvalidValue
from pageskips.filters import picked
from pageskips.notes import bars, grants, is_note
from pageskips.readers import lost
from pageskips.wishes import Wish
from tests.column_model import FILTERS, VALUES, ToldColumn, chance_settings, told_passes
from tests.note_model import ALL_RULES, NO_RULES, RULES
from tests.refusals import RefusalTest
from tests.samples import BIG, NO_FILTERS, NO_TEXTS, SOME_FILTERS, TEXTS, told_answer

# By this rule pages are barred and granted by whole first letters.
RULE = ("many", 1, ("cut", 1))
NO_TRUTHS = [None, 0, 1, "", "yes", "True", (), (True,), [False], 10 ** 30]


def filled(*values, rule=RULE, most=2):
    column = Column(rule, most)
    column.add(*values)
    return column


class ScanTest(RefusalTest):
    def check_scan(self, column, query, indexes, pages):
        """What a scan tells, by a filter and by a wish, counted and not, and how many pages it reads."""
        read = column.read
        self.assertEqual(list(column.scan(query)), indexes)
        self.assertEqual(column.read, read + pages)
        self.assertEqual(list(column.scan(Wish(query))), indexes)
        self.assertEqual(column.read, read + 2 * pages)
        self.assertEqual(list(column.scan(counted=True, wish=query)), indexes)
        self.assertEqual(column.read, read + 3 * pages)
        self.assertEqual(list(column.scan(query, counted=False)), indexes)
        self.assertEqual(list(column.scan(counted=False, wish=Wish(query))), indexes)
        self.assertEqual(column.read, read + 3 * pages)
        self.assertEqual(column.count(query), len(indexes))
        self.assertEqual(column.count(Wish(query)), len(indexes))
        self.assertEqual(column.read, read + 5 * pages)
        for index in indexes:
            self.assertIs(type(index), int)


class TestScans(ScanTest):
    def test_pages_that_are_barred_granted_and_read(self):
        column = filled("ab", "ac", "bb", "ca", "c", None)
        self.check_scan(column, ("begins", "a"), [0, 1], 0)
        self.check_scan(column, ("is", "ab"), [0], 1)
        self.check_scan(column, ("is", "bb"), [2], 1)
        self.check_scan(column, ("begins", "b"), [2], 1)
        self.check_scan(column, ("begins", "c"), [3, 4], 2)
        self.check_scan(column, ("none",), [5], 1)
        self.check_scan(column, ("not", ("none",)), [0, 1, 2, 3, 4], 1)
        self.check_scan(column, ("say", True), [0, 1, 2, 3, 4, 5], 0)
        self.check_scan(column, ("say", False), [], 0)
        self.check_scan(column, ("above", "cccc"), [], 2)
        self.check_scan(column, ("is", "b"), [], 1)
        self.check_scan(column, ("below", "a"), [], 0)

    def test_the_open_page_is_read(self):
        column = filled("ab", "ac", "bb")
        for query, indexes, pages in [
            (("begins", "a"), [0, 1], 1), (("say", False), [], 1), (("say", True), [0, 1, 2], 1),
            (("is", "bb"), [2], 1), (("is", "ab"), [0], 2), (("none",), [], 1),
        ]:
            self.check_scan(column, query, indexes, pages)
            self.check_scan(column.twin(), query, indexes, pages)
        column.close()
        self.check_scan(column, ("say", False), [], 0)
        self.check_scan(column, ("begins", "b"), [2], 0)
        column.undo()
        self.check_scan(column, ("begins", "b"), [2], 1)

    def test_an_empty_column(self):
        for query in FILTERS:
            self.check_scan(Column(RULE, 3), query, [], 0)

    def test_all_ways_to_look_at_one_page(self):
        column = filled("b", rule=("hidden", "lost", "lost"), most=1)
        self.check_scan(column, ("is", "b"), [0], 1)
        self.check_scan(column, ("is", "a"), [], 1)
        self.check_scan(column, ("say", True), [0], 0)
        column = filled("b", rule=("many", 6, "lost"), most=1)
        self.check_scan(column, ("is", "b"), [0], 0)
        self.check_scan(column, ("is", "a"), [], 0)
        self.check_scan(column, ("not", ("is", "a")), [0], 0)

    def test_against_the_model(self):
        throws = random.Random(41)
        for rule, most in chance_settings(60, 43):
            column, told = Column(rule, most), ToldColumn(rule, most)
            for _ in range(6):
                values = [throws.choice(VALUES) for _ in range(throws.randrange(4))]
                self.assertEqual(column.add(*values), told.add(*values))
                if throws.randrange(3) == 0:
                    self.assertEqual(column.close(), told.close())
                for query in FILTERS[throws.randrange(4)::4]:
                    self.assertEqual(list(column.scan(query)), told.scan(query), (rule, most, query))
                    self.assertEqual(column.read, told.read, (rule, most, query))

    def test_each_rule_and_filter(self):
        values = [None, "a", "ab", "ab", None, None, "", "cc", "cca", "b", "bca", "ab", "c"]
        for at, rule in enumerate(ALL_RULES):
            column = filled(*values, rule=rule, most=1 + at % 5)
            for query in SOME_FILTERS[at % 7::7]:
                told = [index for index, value in enumerate(values) if told_answer(query, value) == "yes"]
                self.assertEqual(list(column.scan(query)), told)
                self.assertEqual(picked(query, column.contents), told)
                read = column.read
                unread = [1 for noted in column.notes if bars(rule, noted, query) or grants(rule, noted, query)]
                self.assertEqual(column.count(query), len(told))
                self.assertEqual(column.read - read, len(column.notes) - len(unread) + (len(values) % column.most > 0))

    def test_big_wishes(self):
        column = filled("ab", "ac", "b", None, most=1)
        wish = Wish(("say", False))
        for text in TEXTS[:59]:
            wish = wish | text
        self.check_scan(column, wish.query, [0, 1, 2], 3)

    def test_the_same_values_in_pages_of_other_lengths(self):
        """Values pass or not, whatever pages they stand in; more of them are read in longer pages, or of fewer."""
        throws = random.Random(47)
        for rule in RULES[::3]:
            values = [throws.choice(VALUES) for _ in range(17)]
            columns = [filled(*values, rule=rule, most=most) for most in (1, 2, 3, 5, 17, 18, 1000)]
            for query in FILTERS:
                told = [at for at, value in enumerate(values) if told_passes(query, value)]
                for column in columns:
                    self.assertEqual(list(column.scan(query)), told)
            self.assertEqual([column.read <= len(FILTERS) * (17 // column.most + 1) for column in columns], [True] * 7)
            self.assertEqual(columns[5].read, len(FILTERS))


class TestScansOnTheirWay(ScanTest):
    def test_a_scan_within_a_scan(self):
        column = filled("ab", "b", "ac", "c", "ab")
        told = []
        for index in column.scan(("begins", "a")):
            for other in column.scan(Wish(("is", column[index]))):
                told.append((index, other))
        self.assertEqual(told, [(0, 0), (0, 4), (2, 2), (4, 0), (4, 4)])
        # The outer one reads all three pages, each of the inner ones both closed ones and the open one.
        self.assertEqual(column.read, 3 + 3 * 3)

    def test_a_scan_within_itself(self):
        column = filled("ab", "b", "ac", "c", most=1)
        pairs = [(one, other) for one in column.scan(("begins", "a")) for other in column.scan(("begins", "a"))]
        self.assertEqual(pairs, [(0, 0), (0, 2), (2, 0), (2, 2)])

    def test_two_scans_side_by_side(self):
        column = filled("a", "b", "a", "c", "a", most=1)
        self.assertEqual(list(zip(column.scan(("is", "a")), column.scan(("not", ("is", "a"))))), [(0, 1), (2, 3)])

    def test_a_scan_that_is_left(self):
        column = filled("a", "a", "b", "a", "a")
        for index in column.scan(("is", "a")):
            self.assertEqual(index, 0)
            break
        self.assertEqual(column.add("c", "a"), 3)
        self.assertEqual(list(column.scan(("is", "a"), counted=False)), [0, 1, 3, 4, 6])
        for index in column.scan(("is", "a")):
            if index == 3:
                break
        self.assertEqual(column.undo(), 2)
        self.assertEqual(column.undo(), 5)
        self.assertEqual(list(column.scan(("say", True))), [])

    def test_a_scan_that_is_not_gone_through(self):
        column = filled("a", "b", "a")
        scan = column.scan(("is", "a"))
        self.assertEqual(next(iter(scan)), 0)
        column.add("c")
        column.begin()
        column.finish()
        self.check_scan(column, ("is", "c"), [3], 1)
        self.assertEqual(column.undo(), 1)

    def test_a_scan_in_a_block(self):
        column = filled("a", "b", "a")
        column.begin()
        column.add("a", "a")
        self.assertEqual(list(column.scan(("is", "a"))), [0, 2, 3, 4])
        column.finish()
        self.assertEqual(column.read, 3)
        self.assertEqual(list(column.scan(("is", "a"))), [0, 2])
        self.assertEqual(column.read, 5)

    def test_a_whole_scan_is_over(self):
        column = filled("a", "b", "a")
        scan = column.scan(("is", "a"))
        self.assertEqual(list(scan), [0, 2])
        self.assertEqual(column.read, 2)
        self.assertEqual(list(column.scan(("is", "a"))), [0, 2])
        self.assertEqual(column.read, 4)


class TestOtherReaders(ScanTest):
    def test_readers_of_notes_by_another_rule(self):
        """A reader who believes another rule loses just the pages that [13] tells."""
        throws = random.Random(53)
        losses = 0
        for _ in range(400):
            maker, belief = throws.choice(RULES), throws.choice(RULES)
            most = throws.choice((1, 2, 3))
            values = [throws.choice(VALUES) for _ in range(6)]
            column = filled(*values, rule=maker, most=most)
            query = throws.choice(FILTERS)
            for at, noted in enumerate(column.notes):
                page = values[at * most:(at + 1) * most]
                skipped = is_note(belief, noted) and bars(belief, noted, query)
                told = skipped and any([told_passes(query, value) for value in page])
                self.assertIs(lost(maker, belief, page, query), told)
                losses += told
                if maker == belief:
                    self.assertIs(told, False)
        self.assertGreater(losses, 2)

    def test_the_example_of_the_document(self):
        column = filled("bac", "bb", rule=("many", 1, ("cut", 6)))
        self.assertEqual(column.notes, [(2, 0, "b", "bb")])
        belief = ("many", 6, ("cut", 6))
        self.assertIs(bars(belief, column.notes[0], ("is", "bac")), True)
        self.assertEqual(list(column.scan(("is", "bac"))), [0])
        self.assertEqual(column.read, 1)
        believing = filled("bac", "bb", rule=belief)
        self.check_scan(believing, ("is", "baca"), [], 0)
        self.check_scan(believing, ("is", "bac"), [0], 1)


class TestErrors(ScanTest):
    def test_what_is_no_wish_and_no_filter(self):
        column = filled("a", "b", "c")
        right = [("is", "a"), Wish(("none",))]
        wrongs = [value for value in NO_FILTERS + NO_TEXTS + BIG + TEXTS[:5] if value not in right]
        for wrong in wrongs + [[Wish(("none",))], (Wish(("none",)),), column, errors.InvalidFilter("a")]:
            with self.subTest(wrong=repr(wrong)[:60]):
                self.refused(InvalidFilter, lambda: list(column.scan(wrong)))
                self.refused(InvalidFilter, lambda: list(column.scan(counted=False, wish=wrong)))
                self.refused(InvalidFilter, column.count, wrong)
        self.assertEqual(column.read, 0)

    def test_what_is_no_truth(self):
        column = filled("a", "b", "c")
        for wrong in NO_TRUTHS + NO_RULES[::9] + BIG + [Wish(("none",)), column]:
            for wish in (("is", "a"), Wish(("say", False))):
                self.refused(InvalidValue, lambda: list(column.scan(wish, counted=wrong)))
                self.refused(InvalidValue, lambda: list(column.scan(counted=wrong, wish=wish)))
            self.refused(InvalidFilter, lambda: list(column.scan(("is", 1), counted=wrong)))
            self.refused(InvalidFilter, lambda: list(column.scan(counted=wrong, wish=None)))
        self.assertEqual(column.read, 0)

    def test_errors_in_an_empty_column(self):
        column = Column(RULE, 2)
        self.refused(InvalidFilter, lambda: list(column.scan(None)))
        self.refused(InvalidValue, lambda: list(column.scan(("none",), counted=1)))
        self.refused(InvalidFilter, column.count, "a")


if __name__ == "__main__":
    unittest.main()
