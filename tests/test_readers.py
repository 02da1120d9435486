"""[7], [8], [13]: what readers lose, and which notes tell others."""

import itertools
import random
import unittest

from pageskips import errors
from pageskips.errors import InvalidFilter, InvalidPage, InvalidRule
from pageskips.notes import bars, is_note, note
from pageskips.readers import least_loss, loses, lost, tells, untold
from tests.note_model import (ALL_RULES, NO_PAGES, NO_RULES, PAGES, RULES, kinds, rules_up_to, told_note,
                              values_by_note)
from tests.refusals import RefusalTest
from tests.samples import (BIG, NO_FILTERS, NO_TEXTS, SHORT, SOME_FILTERS, texts_up_to, told_answer)

PAIRS = list(itertools.product(RULES, RULES))
SAME_LACKS = [(maker, belief) for maker, belief in PAIRS if maker[0] == belief[0]]
FILTERS = [("is", text) for text in SHORT[:7]] + [
    ("none",), ("say", True), ("begins", "b"), ("above", "b"), ("below", "a"), ("not", ("is", "a")), ("begins", ""),
    ("or", (("none",), ("is", "c"))), ("not", ("none",))]
ONE_OR_TWO = [[value] for value in [None] + SHORT]
ONE_OR_TWO += [[one, other] for one in [None] + SHORT for other in [None] + SHORT]


def told_missed(maker, belief, page):
    """The values of a page that a reader does not expect in it, as the small pages tell."""
    expected = values_by_note(belief).get(kinds(told_note(maker, page)))
    return [] if expected is None else [value for value in page if value not in expected]


def told_least_loss(maker, belief):
    """The least of the pages of one or two short texts that is lost for a text, and the least such text."""
    for page in ONE_OR_TWO:
        missed = [value for value in told_missed(maker, belief, page) if value is not None]
        if missed:
            return (page, min(missed))
    return None


def told_losses(maker, belief):
    """All values that are lost in small pages."""
    expected = values_by_note(belief)
    return {value for told, values in values_by_note(maker).items() if told in expected
            for value in values - expected[told]}


class TestLost(unittest.TestCase):
    def test_the_examples_of_the_document(self):
        maker, belief = ("many", 1, ("cut", 6)), ("many", 6, ("cut", 6))
        self.assertIs(lost(maker, belief, ["bac", "bb"], ("is", "bac")), True)
        self.assertIs(lost(query=("is", "bac"), page=["bac", "bb"], belief=belief, maker=maker), True)
        self.assertIs(lost(maker, belief, ["bac", "bb"], ("is", "bb")), False)
        self.assertIs(lost(maker, belief, ["bac", "bb"], ("is", "baca")), False)
        self.assertIs(lost(maker, belief, ["bac", "bb"], ("begins", "b")), False)
        self.assertIs(lost(maker, belief, ["bac", "bb"], ("begins", "ba")), True)
        self.assertIs(lost(belief, belief, ["bac", "bb"], ("is", "bac")), False)
        self.assertIs(lost(belief, maker, ["bac", "bb"], ("is", "bac")), False)

    def test_none_alone(self):
        maker, belief = ("hidden", 0, "lost"), ("hidden", 1, ("beyond", 0))
        self.assertIs(lost(maker, belief, [None, ""], ("none",)), True)
        self.assertIs(lost(maker, belief, ["", None], ("none",)), True)
        self.assertIs(lost(maker, belief, [None, ""], ("is", "")), False)
        self.assertIs(lost(maker, belief, ["", ""], ("none",)), False)
        self.assertIs(lost(maker, belief, [None, None, ""], ("none",)), False)

    def test_other_words_of_lacks(self):
        """A note whose lacks are of another kind is none of the notes that the reader knows."""
        for maker, belief in PAIRS:
            if maker[0] != belief[0]:
                for page in (["a", "bca"], [None, "b"], [None]):
                    for query in (("none",), ("is", "bca"), ("say", True), ("is", "b")):
                        self.assertIs(lost(maker, belief, page, query), False)

    def test_notes_that_the_reader_does_not_know(self):
        self.assertIs(lost(("many", 2, ("cut", 1)), ("many", 1, ("cut", 1)), ["ab", "ab"], ("is", "ab")), False)
        self.assertIs(lost(("many", 1, ("beyond", 1)), ("many", 1, ("cut", 1)), ["cc"], ("is", "cc")), False)
        self.assertIs(lost(("many", 1, ("beyond", 1)), ("many", 1, ("cut", 1)), ["cc", "ab"], ("is", "cc")), False)
        self.assertIs(lost(("many", 1, ("beyond", 1)), ("many", 1, ("cut", 1)), ["ab", "ac"], ("is", "ac")), False)
        self.assertIs(lost(("many", 1, ("cut", 1)), ("many", 1, ("beyond", 1)), ["ab", "ac"], ("is", "ac")), True)

    def test_small_pages_by_small_rules(self):
        pages = ONE_OR_TWO[::5] + PAGES[200::97]
        for maker, belief in SAME_LACKS[::2]:
            for page in pages:
                missed = told_missed(maker, belief, page)
                expected = values_by_note(belief).get(kinds(told_note(maker, page)), [])
                for query in FILTERS if missed else FILTERS[::5]:
                    skipped = expected != [] and not [one for one in expected if told_answer(query, one) == "yes"]
                    told = skipped and "yes" in [told_answer(query, value) for value in page]
                    self.assertIs(lost(maker, belief, page, query), told, (maker, belief, page, query))

    def test_it_goes_with_the_notes(self):
        throws = random.Random(8)
        many = 0
        for _ in range(6000):
            lacks = throws.choice(("many", "some", "hidden"))
            maker = (lacks, *throws.choice(ALL_RULES)[1:])
            belief = (lacks, *throws.choice(ALL_RULES)[1:])
            start = throws.choice(("", "ab", "abcabc", "cccccc"))
            values = (None, start, start + "b", start[1:], "b" + start)
            page = [throws.choice(values) for _ in range(throws.randrange(1, 4))]
            for query in (("is", throws.choice(page) or ""), throws.choice(SOME_FILTERS)):
                made = note(maker, page)
                skipped = is_note(belief, made) and bars(belief, made, query)
                told = skipped and "yes" in [told_answer(query, value) for value in page]
                self.assertIs(lost(maker, belief, page, query), told)
                many += told
        self.assertGreater(many, 100)

    def test_the_maker_loses_nothing(self):
        for rule in ALL_RULES:
            for page in (["bac", "bb"], [None, "cccccccc"], ["abcabca", "abcabcb"], [None], ["", "a", "aa"]):
                for query in [("is", value) for value in page if value is not None] + [("none",), ("say", True)]:
                    self.assertIs(lost(rule, rule, page, query), False)

    def test_the_page_stays_as_it_was(self):
        page = ["bac", None, "bb"]
        lost(("many", 1, ("cut", 6)), ("many", 6, ("cut", 6)), page, ("is", "bac"))
        self.assertEqual(page, ["bac", None, "bb"])


class TestLosesAndLeastLoss(unittest.TestCase):
    def check(self, maker, belief, told):
        with self.subTest(maker=maker, belief=belief):
            self.assertEqual(least_loss(maker, belief), told)
            self.assertEqual(least_loss(belief=belief, maker=maker), told)
            if told is not None:
                page, text = told
                self.assertIs(lost(maker, belief, page, ("is", text)), True)
                self.assertIs(loses(maker, belief), True)

    def test_ordinary_rules(self):
        for maker, belief, told in [
            (("many", 1, ("cut", 1)), ("many", 1, ("cut", 2)), (["aa"], "aa")),
            (("many", 1, ("cut", 1)), ("many", 2, ("cut", 1)), (["aa"], "aa")),
            (("many", 2, ("cut", 2)), ("many", 1, ("cut", 1)), None),
            (("many", 1, ("cut", 1)), ("many", 1, ("beyond", 1)), (["aa"], "aa")),
            (("many", 1, ("beyond", 1)), ("many", 1, ("cut", 1)), (["", "aa"], "aa")),
            (("many", 0, ("cut", 0)), ("many", 0, ("beyond", 0)), (["a"], "a")),
            (("many", 0, ("beyond", 0)), ("many", 0, ("cut", 0)), None),
            (("many", "lost", "lost"), ("many", 1, ("cut", 1)), None),
            (("some", "lost", "lost"), ("some", 1, ("cut", 1)), ([None, ""], "")),
            (("hidden", "lost", "lost"), ("hidden", 1, ("cut", 1)), ([""], "")),
            (("many", 1, ("cut", 6)), ("many", 6, ("cut", 6)), (["aa", "aaa"], "aa")),
        ]:
            self.check(maker, belief, told)
            if maker in RULES and belief in RULES:
                self.assertEqual(told_least_loss(maker, belief), told)

    def test_none_alone(self):
        maker, belief = ("hidden", 0, "lost"), ("hidden", 1, ("beyond", 0))
        self.check(maker, belief, None)
        self.assertIs(loses(maker, belief), True)
        alone = [pair for pair in PAIRS if told_losses(*pair) == {None}]
        self.assertIn((maker, belief), alone)
        for maker, belief in alone:
            self.assertEqual((maker[0], belief[0]), ("hidden", "hidden"))
            self.check(maker, belief, None)
            self.assertIs(loses(maker, belief), True)
            self.assertIs(loses(belief=belief, maker=maker), True)

    def test_the_least_loss_by_all_small_rules(self):
        for maker, belief in PAIRS:
            self.check(maker, belief, told_least_loss(maker, belief))

    def test_loses_against_all_small_pages(self):
        for maker, belief in PAIRS:
            losses = told_losses(maker, belief)
            self.assertIs(loses(maker, belief), losses != set(), (maker, belief))
            self.assertIs(least_loss(maker, belief) is not None, losses - {None} != set(), (maker, belief))

    def test_rules_of_two_letters(self):
        """Each page that is less than the one that is told is not lost for any of its texts."""
        throws = random.Random(4)
        rules = [rule for rule in rules_up_to(2) if letters(rule) == 2]
        values = [None] + texts_up_to(3)
        pages = [[value] for value in values] + [[one, other] for one in values for other in values]
        for _ in range(12):
            maker = throws.choice(rules)
            belief = (maker[0], *throws.choice(rules)[1:])
            expected = {}
            for page in pages:
                expected.setdefault(kinds(told_note(belief, page)), set()).update(page)
            told = None
            for page in pages:
                had = expected.get(kinds(told_note(maker, page)), set(values))
                missed = [value for value in page if value is not None and value not in had]
                if missed and told is None:
                    told = (page, min(missed))
            self.check(maker, belief, told)

    def test_readers_who_believe_the_rule_of_the_maker(self):
        for rule in rules_up_to(2)[::3] + [("hidden", 3, ("beyond", 3)), ("some", 3, ("cut", 3))]:
            self.check(rule, rule, None)
            self.assertIs(loses(rule, rule), False)

    def test_returned_lists_are_new(self):
        maker, belief = ("many", 1, ("cut", 1)), ("many", 1, ("cut", 2))
        page, _ = least_loss(maker, belief)
        other, _ = least_loss(maker, belief)
        self.assertIsNot(page, other)
        page.append("c")
        self.assertEqual(least_loss(maker, belief), (other, other[0]))


def letters(rule):
    """The greatest number in a rule."""
    return max([0] + [part for part in [rule[1], *rule[2]] if type(part) is int])


class TestTellsAndUntold(unittest.TestCase):
    def check(self, maker, belief, told):
        with self.subTest(maker=maker, belief=belief):
            self.assertIs(tells(maker, belief), told)
            self.assertIs(tells(belief=belief, maker=maker), told)
            shown = untold(maker, belief)
            self.assertEqual(untold(belief=belief, maker=maker), shown)
            self.assertIs(shown is None, told)
            if shown is not None:
                one, other = shown
                self.assertIs(type(shown), tuple)
                self.assertIsNot(one, other)
                self.assertEqual(kinds(told_note(maker, one)), kinds(told_note(maker, other)))
                self.assertNotEqual(kinds(told_note(belief, one)), kinds(told_note(belief, other)))
                self.assertEqual(kinds(note(maker, one)), kinds(note(maker, other)))
                self.assertNotEqual(kinds(note(belief, one)), kinds(note(belief, other)))

    def test_the_words_of_lacks(self):
        for low, high in ((1, ("cut", 1)), ("lost", "lost"), (0, ("beyond", 0)), (6, ("beyond", 6))):
            for maker, belief, told in [
                ("many", "many", True), ("many", "some", True), ("many", "hidden", True), ("some", "many", False),
                ("some", "some", True), ("some", "hidden", True), ("hidden", "many", False),
                ("hidden", "some", False), ("hidden", "hidden", True),
            ]:
                self.check((maker, low, high), (belief, low, high), told)

    def test_the_bounds(self):
        for maker, belief, told in [
            ((2, ("cut", 2)), (1, ("cut", 1)), True), ((1, ("cut", 2)), (2, ("cut", 1)), False),
            ((2, ("cut", 1)), (1, ("cut", 2)), False), ((6, ("cut", 6)), (6, ("beyond", 6)), False),
            ((6, ("cut", 6)), (6, ("beyond", 5)), True), ((6, ("beyond", 6)), (6, ("cut", 6)), False),
            ((6, ("beyond", 6)), (6, ("cut", 0)), True), ((6, ("beyond", 6)), (6, ("beyond", 5)), True),
            ((6, ("beyond", 6)), (6, ("cut", 1)), False),
            ((0, ("beyond", 0)), (0, ("cut", 0)), True), (("lost", ("beyond", 0)), ("lost", ("cut", 0)), True),
            ((5, ("beyond", 5)), (5, ("beyond", 6)), False), ((0, ("cut", 0)), ("lost", "lost"), True),
            (("lost", "lost"), (0, "lost"), True), (("lost", "lost"), (1, "lost"), False),
            (("lost", "lost"), ("lost", ("cut", 0)), True), (("lost", "lost"), ("lost", ("beyond", 0)), False),
            (("lost", "lost"), ("lost", "lost"), True), ((5, "lost"), (6, "lost"), False),
            ((6, "lost"), (5, "lost"), True),
        ]:
            self.check(("many", *maker), ("many", *belief), told)

    def test_whether_there_is_a_text(self):
        for lacks in ("some", "hidden"):
            self.check((lacks, "lost", "lost"), (lacks, 0, "lost"), False)
            self.check((lacks, "lost", "lost"), (lacks, "lost", ("cut", 0)), False)
            self.check((lacks, "lost", ("cut", 0)), (lacks, 0, "lost"), True)
            self.check((lacks, "lost", ("beyond", 0)), (lacks, 0, "lost"), False)
            self.check((lacks, "lost", ("beyond", 3)), (lacks, "lost", ("cut", 0)), False)
            self.check((lacks, "lost", ("beyond", 3)), (lacks, "lost", ("beyond", 2)), True)
            self.check((lacks, 0, "lost"), (lacks, "lost", ("cut", 0)), True)

    def test_all_small_rules_against_all_small_pages(self):
        pages = [page for page in PAGES if len(page) < 4]
        notes = {rule: [kinds(told_note(rule, page)) for page in pages] for rule in RULES}
        for maker, belief in PAIRS:
            made = {}
            told = all([made.setdefault(one, other) == other for one, other in zip(notes[maker], notes[belief])])
            self.check(maker, belief, told)

    def test_rules_of_two_letters(self):
        texts = texts_up_to(3)
        pages = [[None] * many for many in (1, 2, 3)] + [[None] * many + [text] for many in (0, 1, 2) for text in texts]
        pages += [[one, other] for one in texts for other in texts if one <= other]
        pages += [[None] + page for page in pages if len(page) == 2]
        throws = random.Random(6)
        rules = throws.sample(rules_up_to(2), 24)
        notes = {rule: [kinds(told_note(rule, page)) for page in pages] for rule in rules}
        for maker, belief in itertools.product(rules, rules):
            made = {}
            told = all([made.setdefault(one, other) == other for one, other in zip(notes[maker], notes[belief])])
            self.check(maker, belief, told)

    def test_rules_of_many_letters(self):
        """What the rules note of long texts by all numbers; two pages that are shown prove the rest."""
        starts = ("", "a", "ab", "acc", "bcc", "cc", "abcca", "acccc", "ccccc", "acccccc", "cccccc")
        texts = [start + end for start in starts
                 for end in ("", "a", "b", "c", "ca", "cb", "ac")]
        pages = [[None], [None, None]] + [page for text in texts for page in (
            [text], [None, text], ["", text], [text, "c" * 9], [None, "", text])]
        throws = random.Random(12)
        told_rules = throws.sample(ALL_RULES, 70)
        notes = {rule: [kinds(told_note(rule, page)) for page in pages] for rule in told_rules}
        for maker, belief in itertools.product(told_rules, told_rules[::4]):
            made = {}
            told = all([made.setdefault(one, other) == other for one, other in zip(notes[maker], notes[belief])])
            self.assertTrue(told or not tells(maker, belief), (maker, belief))
            self.check(maker, belief, tells(maker, belief))

    def test_what_tells_goes_on(self):
        """Who is told by one rule is told what this one tells."""
        throws = random.Random(9)
        for _ in range(60):
            one, other, third = throws.sample(ALL_RULES[::5], 3)
            if tells(one, other) and tells(other, third):
                self.check(one, third, True)

    def test_each_rule_tells_itself_and_the_coarsest_rule(self):
        for rule in ALL_RULES[::4]:
            self.check(rule, rule, True)
            self.check(rule, ("hidden", "lost", "lost"), True)

    def test_returned_lists_are_new(self):
        maker, belief = ("hidden", 1, "lost"), ("many", 1, "lost")
        one, other = untold(maker, belief)
        again = untold(maker, belief)
        self.assertEqual((one, other), again)
        kept = (list(one), list(other))
        one.append("c")
        other.append(None)
        self.assertEqual(again, kept)
        self.assertEqual(untold(maker, belief), kept)


class TestErrors(RefusalTest):
    def test_wrong_arguments(self):
        rules = NO_RULES + NO_TEXTS + BIG + [errors.InvalidRule("a")]
        pages = NO_PAGES + [value for value in BIG if value != ["a"] * 19999]
        queries = NO_FILTERS + [value for value in NO_TEXTS if value != ("is", "a")] + BIG
        both = [("maker", ("many", 1, ("cut", 1)), InvalidRule, rules),
                ("belief", ("many", 1, ("cut", 2)), InvalidRule, rules)]
        for function in (loses, least_loss, tells, untold):
            self.refuses(function, both)
        behind = [("page", ["aa"], InvalidPage, pages), ("query", ("is", "aa"), InvalidFilter, queries)]
        self.refuses(lost, both + behind)
        self.refuses(lost, [("maker", ("many", 1, "lost"), InvalidRule, rules),
                            ("belief", ("some", 1, "lost"), InvalidRule, rules), *behind])


if __name__ == "__main__":
    unittest.main()
