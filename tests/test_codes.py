"""[14]: the signs of pages by each code, of notes, and the cheapest way to cut a column."""

import itertools
import random
import unittest

from pageskips import errors
from pageskips.codes import best_code, cheapest, is_code, note_signs, signs
from pageskips.errors import InvalidCode, InvalidColumn, InvalidNumber, InvalidPage, InvalidRule
from tests.note_model import ALL_RULES, NO_PAGES, NO_RULES, PAGES, RULES, told_note
from tests.refusals import RefusalTest
from tests.samples import BIG, NO_TEXTS, texts_up_to

CODES = ("plain", "runs", "table", "shared")
NO_CODES = ["", "Plain", "plain ", "run", "none", "plain\n", "plainruns", ("plain",), ["plain"], 0, 1, True, False,
            None,
            CODES, list(CODES), "a", "shared."]
NO_COLUMNS = [(), ("a",), None, "", "abc", 0, True, ["d"], ["a", 1], [None, True], [["a"]], ["a", "b\n"], [[]],
              ["a"] * 9000 + [0]]
NO_MOST = [0, -1, 1001, 10 ** 30, -(10 ** 30), True, False, None, "1", "", (), [1]]


def written(value):
    """The signs of a value or an integer, written out: letters and an end, or digits."""
    if type(value) is int:
        return str(value)
    return ("" if value is None else value) + "."


def written_page(code, page):
    """The signs of a page by a code, written out."""
    if code == "plain":
        return "".join([written(value) for value in page])
    if code == "runs":
        stretches = [list(values) for _, values in itertools.groupby(page, key=lambda value: (value is None, value))]
        return "".join([written(values[0]) + written(len(values)) for values in stretches])
    if code == "table":
        unlike = [value for at, value in enumerate(page) if value not in page[:at]]
        return "".join([written(value) for value in unlike] + [written(unlike.index(value)) for value in page])
    told = ""
    for at, value in enumerate(page):
        ahead = page[at - 1] if at > 0 and page[at - 1] is not None else ""
        if value is None:
            told += "."
        else:
            many = max([many for many in range(len(value) + 1) if ahead[:many] == value[:many] and many <= len(ahead)])
            told += written(many) + written(value[many:])
    return told


def told_note_signs(rule, page):
    many, lacks, low, high = told_note(rule, page)
    told = {"many": len(str(lacks)), "some": 1, "hidden": 0}[rule[0]]
    return len(str(many)) + told + len(written(low)) + len(written(high))


def told_signs(rule, page):
    """The signs of a page, by its best code, and of its note."""
    return min([len(written_page(code, page)) for code in CODES]) + told_note_signs(rule, page)


def cuts(length, most):
    """All lists of lengths of pages into which so many values can be cut."""
    if length == 0:
        return [[]]
    return [[first] + rest for first in range(1, min(length, most) + 1) for rest in cuts(length - first, most)]


def told_plans(rule, column, most):
    """The signs of each way to cut a column, with the lengths of the pages, in ascending sequence."""
    plans = []
    for lengths in cuts(len(column), most):
        starts = [sum(lengths[:at]) for at in range(len(lengths))]
        pages = [column[start:start + length] for start, length in zip(starts, lengths)]
        plans.append((sum([told_signs(rule, page) for page in pages]), lengths))
    return sorted(plans)


def chance_pages(many, seed):
    """Pages by a fixed sequence of throws, of few unlike values or of many."""
    throws = random.Random(seed)
    texts = texts_up_to(4)
    pages = []
    for _ in range(many):
        values = throws.sample([None, None] + texts, throws.choice((2, 3, 5, 14)))
        page = [throws.choice(values) for _ in range(throws.randrange(1, 30))]
        pages.append(sorted(page, key=lambda value: value or "") if throws.randrange(2) else page)
    return pages


class TestIsCode(unittest.TestCase):
    def test_codes(self):
        for code in CODES:
            self.assertIs(is_code(code), True)
            self.assertIs(is_code(value=code), True)

    def test_other_values(self):
        for value in NO_CODES + NO_TEXTS + BIG + [errors.InvalidCode("plain")]:
            with self.subTest(value=repr(value)[:60]):
                self.assertIs(is_code(value), False)


class TestSigns(unittest.TestCase):
    def check(self, page, *told):
        for code, many in zip(CODES, told):
            with self.subTest(page=page, code=code):
                self.assertEqual(signs(code, page), many)
                self.assertEqual(signs(page=page, code=code), many)
                self.assertEqual(len(written_page(code, page)), many)

    def test_pages_of_one_value(self):
        self.check([None], 1, 2, 2, 1)
        self.check([""], 1, 2, 2, 2)
        self.check(["a"], 2, 3, 3, 3)
        self.check(["abcabc"], 7, 8, 8, 8)

    def test_equal_values_beside_one_another(self):
        self.check(["ab"] * 3, 9, 4, 6, 4 + 2 + 2)
        self.check(["ab"] * 9, 27, 4, 12, 4 + 8 * 2)
        self.check(["ab"] * 10, 30, 5, 13, 4 + 9 * 2)
        self.check(["ab"] * 99, 297, 5, 102, 4 + 98 * 2)
        self.check(["ab"] * 100, 300, 6, 103, 4 + 99 * 2)
        self.check([None] * 10, 10, 3, 11, 10)
        self.check(["a", "a", "b", "a"], 8, 9, 8, 11)
        self.check([None, None, "a", None], 5, 2 + 3 + 2, 3 + 4, 6)
        self.check(["", None, "", ""], 4, 2 + 2 + 2, 2 + 4, 2 + 1 + 2 + 2)

    def test_many_unlike_values(self):
        texts = [text for text in texts_up_to(3) if len(text) == 3]
        self.assertEqual(len(texts), 27)
        self.check(texts[:10], 40, 50, 50, len(written_page("shared", texts[:10])))
        self.check(texts[:11], 44, 55, 44 + 10 + 2, len(written_page("shared", texts[:11])))
        self.check(texts[:11] + texts[:11], 88, 110, 44 + 2 * 12, len(written_page("shared", texts[:11] * 2)))
        self.check(texts[:10] * 2, 80, 100, 40 + 20, len(written_page("shared", texts[:10] * 2)))
        self.assertEqual(signs("table", texts * 4), 108 + 4 * (10 + 17 * 2))
        # The sequence in which values first come counts, not how often or where they come again.
        self.assertEqual(signs("table", texts[:11] + [texts[10]] * 5), 44 + 12 + 10)
        self.assertEqual(signs("table", texts[:11] + [texts[0]] * 5), 44 + 12 + 5)
        many = texts_up_to(5)[:101]
        self.assertEqual(signs("table", many), sum([len(text) + 1 for text in many]) + 10 + 180 + 3)

    def test_texts_that_begin_alike(self):
        self.check(["abc", "abca", "abcb"], 14, 17, 17, 5 + 3 + 3)
        self.check(["a", "abc", "ab", "b"], 11, 15, 15, 3 + 4 + 2 + 3)
        self.check(["abc", "bbc", "bba"], 12, 15, 15, 5 + 5 + 3)
        long = "abc" * 4
        self.check([long, long + "b"], 27, 29, 29, 14 + 2 + 2)
        self.check([long[:9] + "a", long[:9] + "b", long[:9]], 32, 35, 35, 12 + 3 + 2)
        self.check([long[:10] + "a", long[:10] + "b", long[:10]], 35, 38, 38, 13 + 4 + 3)

    def test_none_among_texts_and_first(self):
        self.check([None, "ab", "ab"], 7, 2 + 4, 4 + 3, 1 + 4 + 2)
        self.check(["ab", None, "ab"], 7, 4 + 2 + 4, 4 + 3, 4 + 1 + 4)
        self.check(["", "a", None, "a"], 6, 2 + 3 + 2 + 3, 4 + 4, 2 + 3 + 1 + 3)
        self.check([None, None, "", None], 4, 2 + 2 + 2, 2 + 4, 1 + 1 + 2 + 1)

    def test_pages_written_out(self):
        for page in PAGES[::3] + chance_pages(300, 2):
            turned = page[::2] + page[1::2]
            for code in CODES:
                self.assertEqual(signs(code, page), len(written_page(code, page)), (code, page))
                self.assertEqual(signs(code, turned), len(written_page(code, turned)), (code, turned))

    def test_long_pages_and_long_texts(self):
        self.assertEqual(signs("runs", ["a"] * 20000), 2 + 5)
        self.assertEqual(signs("table", ["a", None] * 10000), 3 + 20000)
        self.assertEqual(signs("shared", ["ab" * 4000] * 2), 8002 + 4 + 1)
        self.assertEqual(signs("plain", ["ab" * 4000, ""]), 8002)

    def test_the_page_stays_as_it_was(self):
        page = ["a", None, "a"]
        for code in CODES:
            signs(code, page)
        best_code(page)
        note_signs(("many", 1, "lost"), page)
        self.assertEqual(page, ["a", None, "a"])


class TestNoteSigns(unittest.TestCase):
    def test_each_word_of_lacks(self):
        for page, many, some, hidden in [
            (["ab", "b"], 1 + 1 + 3 + 2, 1 + 1 + 3 + 2, 1 + 3 + 2), ([None], 1 + 1 + 2, 1 + 1 + 2, 1 + 2),
            (["", None], 1 + 1 + 2, 1 + 1 + 2, 1 + 2), ([None] * 10, 2 + 2 + 2, 2 + 1 + 2, 2 + 2),
            ([None] * 10 + ["abc"], 2 + 2 + 8, 2 + 1 + 8, 2 + 8), (["a"] * 100, 3 + 1 + 4, 3 + 1 + 4, 3 + 4),
            ([None] * 9 + ["a"], 2 + 1 + 4, 2 + 1 + 4, 2 + 4),
        ]:
            for lacks, told in (("many", many), ("some", some), ("hidden", hidden)):
                with self.subTest(page=page, lacks=lacks):
                    self.assertEqual(note_signs((lacks, 6, ("cut", 6)), page), told)
                    self.assertEqual(note_signs(page=page, rule=(lacks, 6, ("cut", 6))), told)

    def test_bounds(self):
        page = ["abcabca", "cbacbac"]
        for rule, told in [
            (("hidden", "lost", "lost"), 1 + 1 + 1), (("hidden", 0, ("cut", 0)), 1 + 1 + 1),
            (("hidden", 2, ("cut", 3)), 1 + 3 + 4), (("hidden", 6, ("beyond", 6)), 1 + 7 + 7),
            (("hidden", 0, ("beyond", 1)), 1 + 1 + 1), (("many", 1, ("beyond", 2)), 1 + 1 + 2 + 3),
            (("some", "lost", ("beyond", 3)), 1 + 1 + 1 + 4), (("many", 3, "lost"), 1 + 1 + 4 + 1),
        ]:
            self.assertEqual(note_signs(rule, page), told, rule)

    def test_all_rules(self):
        pages = PAGES[::301] + chance_pages(6, 3)
        for rule in ALL_RULES:
            for page in pages:
                self.assertEqual(note_signs(rule, page), told_note_signs(rule, page), (rule, page))


class TestBestCode(unittest.TestCase):
    def test_each_code(self):
        for page, told in [
            (["a"], (2, "plain")), (["a", "b"], (4, "plain")), (["a"] * 4, (3, "runs")), (["a"] * 10, (4, "runs")),
            (["ab", "bc"] * 3, (12, "table")), (["abca", "abcb", "abcc"], (12, "shared")),
        ]:
            self.assertEqual(best_code(page), told)
            self.assertEqual(best_code(page=page), told)

    def test_the_first_of_equally_cheap_codes(self):
        for page, equal, told in [
            ([None], ("plain", "shared"), (1, "plain")),
            ([None, None], ("plain", "runs", "shared"), (2, "plain")),
            (["", ""], ("plain", "runs"), (2, "plain")),
            (["ab", "ab"], (), (4, "runs")),
            (["a", "b", "a", "b"], ("plain", "table"), (8, "plain")),
            (["abc", "abca"], (), (8, "shared")),
        ]:
            cheap = [code for code in CODES if signs(code, page) == told[0]]
            self.assertEqual(best_code(page), told)
            self.assertEqual(cheap[0], told[1])
            if equal:
                self.assertEqual(tuple(cheap), equal)

    def test_each_pair_of_codes_is_equally_cheap_somewhere(self):
        ties = set()
        for page in PAGES + chance_pages(400, 5):
            many = [len(written_page(code, page)) for code in CODES]
            cheap = tuple([code for code, signs_taken in zip(CODES, many) if signs_taken == min(many)])
            self.assertEqual(best_code(page), (min(many), cheap[0]))
            ties.add(cheap)
        for code in CODES:
            self.assertIn((code,), ties)
        for pair in itertools.combinations(CODES, 2):
            self.assertTrue([cheap for cheap in ties if set(pair) <= set(cheap)], pair)


class TestCheapest(unittest.TestCase):
    def check(self, rule, column, most):
        """The least of all ways to cut a column; told again it is the same, in a new list."""
        kept = list(column)
        told = cheapest(rule, column, most)
        self.assertEqual(told, told_plans(rule, column, most)[0], (rule, column, most))
        again = cheapest(most=most, column=column, rule=rule)
        self.assertEqual(again, told)
        self.assertIsNot(again[1], told[1])
        self.assertEqual(column, kept)

    def test_ordinary_columns(self):
        rule = ("hidden", "lost", "lost")
        for column, most, told in [
            (["a"], 1, (5, [1])), (["a"], 1000, (5, [1])), (["a", "a", "a"], 1, (15, [1, 1, 1])),
            (["a", "a", "a"], 3, (6, [3])), (["a", "a", "a"], 2, (11, [1, 2])), (["a", "b", "c"], 2, (12, [1, 2])),
            ([None] * 10, 5, (10, [5, 5])), ([None] * 10, 1000, (7, [10])),
        ]:
            with self.subTest(column=column, most=most):
                self.assertEqual(cheapest(rule, column, most), told)
                self.check(rule, column, most)

    def test_the_empty_column(self):
        for most in (1, 2, 1000):
            for rule in RULES[::7]:
                told = cheapest(rule, [], most)
                self.assertEqual(told, (0, []))
                told[1].append(1)
                self.assertEqual(cheapest(rule, [], most), (0, []))

    def test_against_all_ways_to_cut(self):
        columns = [page[:8] for page in chance_pages(40, 7)] + [page for page in PAGES[::180]]
        for at, column in enumerate(columns):
            for most in (1, 2, 3, len(column), 1000):
                for rule in ALL_RULES[at::90]:
                    self.check(rule, column, most)

    def test_several_lists_of_lengths_are_equally_cheap(self):
        throws = random.Random(15)
        ties = 0
        for _ in range(150):
            column = [throws.choice((None, "a", "ab", "b")) for _ in range(throws.randrange(2, 8))]
            rule = throws.choice(ALL_RULES)
            most = throws.randrange(1, 5)
            plans = told_plans(rule, column, most)
            cheap = [lengths for taken, lengths in plans if taken == plans[0][0]]
            self.assertEqual(cheapest(rule, column, most), (plans[0][0], min(cheap)))
            ties += len(cheap) > 1
        self.assertGreater(ties, 20)
        self.assertEqual(cheapest(("hidden", "lost", "lost"), ["a", "a", "a"], 2), (11, [1, 2]))

    def test_the_most(self):
        column = ["a", "ab", None, "b", "b", "b"]
        for rule in RULES[::6]:
            one = cheapest(rule, column, 1)
            self.assertEqual(one[1], [1] * 6)
            self.assertEqual(one[0], sum([told_signs(rule, [value]) for value in column]))
            self.assertEqual(cheapest(rule, column, 6), cheapest(rule, column, 7))
            self.assertEqual(cheapest(rule, column, 6), cheapest(rule, column, 1000))
            for most in range(1, 8):
                self.assertTrue(max(cheapest(rule, column, most)[1]) <= most)

    def test_columns_at_and_beyond_the_limit(self):
        column = [None if at % 7 == 0 else "ab"[:at % 3] + "c" * (at // 9) for at in range(60)]
        for length in (39, 40, 41, 60):
            for most in (1, 7, 40, 1000):
                taken, lengths = cheapest(("some", 2, ("beyond", 2)), column[:length], most)
                self.assertEqual(sum(lengths), length)
                self.assertLessEqual(max(lengths), most)
                starts = [sum(lengths[:at]) for at in range(len(lengths))]
                pages = [column[start:start + many] for start, many in zip(starts, lengths)]
                self.assertEqual(taken, sum([told_signs(("some", 2, ("beyond", 2)), page) for page in pages]))

    def test_returned_lists_are_new(self):
        column = ["a", "b", "a"]
        _, lengths = cheapest(("many", 1, "lost"), column, 2)
        kept = list(lengths)
        lengths.append(9)
        self.assertEqual(cheapest(("many", 1, "lost"), column, 2)[1], kept)


class TestErrors(RefusalTest):
    def test_wrong_arguments(self):
        rules = NO_RULES + NO_TEXTS + BIG + [errors.InvalidRule("a")]
        structures = [value for value in BIG if value != ["a"] * 19999]
        pages = NO_PAGES + structures
        codes = NO_CODES + NO_TEXTS + BIG + [errors.InvalidCode("plain")]
        for code in CODES:
            self.refuses(signs, [("code", code, InvalidCode, codes), ("page", ["a"], InvalidPage, pages)])
        self.refuses(note_signs, [("rule", ("many", 1, "lost"), InvalidRule, rules),
                                  ("page", ["a"], InvalidPage, pages)])
        self.refuses(best_code, [("page", ["a"], InvalidPage, pages)])
        for column in ([], ["a", None, "b"]):
            self.refuses(cheapest, [("rule", ("many", 1, "lost"), InvalidRule, rules),
                                    ("column", column, InvalidColumn, NO_COLUMNS + structures),
                                    ("most", 2, InvalidNumber, NO_MOST + BIG)])

    def test_the_bounds_of_the_most(self):
        for most in (1, 1000):
            self.assertEqual(cheapest(("many", 1, "lost"), ["a"], most)[1], [1])
        for most in (0, 1001):
            self.refused(InvalidNumber, cheapest, ("many", 1, "lost"), [], most)


if __name__ == "__main__":
    unittest.main()
