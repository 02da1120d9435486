"""[16]: capped columns, sorted columns, and columns that are both."""

import itertools
import random
import unittest

from pageskips import errors
from pageskips.columns import CappedColumn, Column, SortedCappedColumn, SortedColumn
from pageskips.errors import Full, InvalidNumber, InvalidRule, InvalidValue, NoBlock, NothingToUndo
from pageskips.wishes import Wish
from tests.column_model import FILTERS, ToldColumn, rank
from tests.note_model import NO_RULES, RULES
from tests.refusals import RefusalTest
from tests.samples import BIG, NO_TEXTS
from tests.test_columns import NO_MOST, NO_VALUES

RULE = ("some", 1, ("cut", 1))
NO_CAPS = [-1, 1001, 1002, 10 ** 30, -(10 ** 30), True, False, None, "1", "", (), [1], (1,), ("a", 1)]
ALL_VALUES = [None, "", "a", "aa", "ab", "abc", "b", "ba", "c", "cb"]


class TestClasses(unittest.TestCase):
    def test_what_stands_under_what(self):
        self.assertTrue(issubclass(CappedColumn, Column) and issubclass(SortedColumn, Column))
        self.assertTrue(issubclass(SortedCappedColumn, CappedColumn) and issubclass(SortedCappedColumn, SortedColumn))
        self.assertFalse(issubclass(CappedColumn, SortedColumn) or issubclass(SortedColumn, CappedColumn))
        self.assertIsInstance(SortedCappedColumn(RULE, 2, cap=3), (SortedColumn, CappedColumn))

    def test_new_ones(self):
        for column in (CappedColumn(RULE, 2, cap=7), CappedColumn(cap=7, most=2, rule=RULE),
                       SortedCappedColumn(RULE, 2, cap=7), SortedCappedColumn(cap=7, most=2, rule=RULE),
                       SortedColumn(RULE, 2), SortedColumn(most=2, rule=RULE)):
            self.assertEqual((column.rule, column.most, column.contents, column.notes, column.read, len(column)),
                             (RULE, 2, [], [], 0, 0))
            if isinstance(column, CappedColumn):
                self.assertEqual(column.cap, 7)
                with self.assertRaises(AttributeError):
                    column.cap = 8
        self.assertFalse(hasattr(SortedColumn(RULE, 2), "cap"))
        self.assertFalse(hasattr(Column(RULE, 2), "cap"))

    def test_they_are_not_iterated_over_and_not_compared(self):
        for column in (CappedColumn(RULE, 2, cap=7), SortedCappedColumn(RULE, 2, cap=7), SortedColumn(RULE, 2)):
            column.add("a", "b")
            with self.assertRaises(TypeError):
                iter(column)
            self.assertEqual([column[0], column[1]], ["a", "b"])
            self.assertIs(column == column.twin(), False)


class TestCapped(RefusalTest):
    def kinds(self, cap, rule=RULE, most=2):
        return [CappedColumn(rule, most, cap=cap), SortedCappedColumn(rule, most, cap=cap)]

    def test_caps_of_no_values_and_of_many(self):
        for column in self.kinds(0):
            self.refused(Full, column.add, "a")
            self.refused(Full, column.add, None)
            self.assertEqual(column.add(), 0)
            self.assertEqual(column.close(), 0)
            self.assertEqual(column.contents, [])
        for column in self.kinds(1000):
            self.assertEqual(column.add(*["a"] * 999), 499)
            self.refused(Full, column.add, "a", "a")
            self.assertEqual(column.add("a"), 500)
            self.refused(Full, column.add, "a")
            self.assertEqual((len(column), column.cap), (1000, 1000))

    def test_adds_that_fill_it_just_so(self):
        for column in self.kinds(3):
            self.refused(Full, column.add, "a", "a", "b", "b")
            self.assertEqual(column.contents, [])
            self.refused(NothingToUndo, column.undo)
            self.assertEqual(column.add("a", "b", "b"), 1)
            self.refused(Full, column.add, "b")
            self.assertEqual(column.add(), 1)
            self.assertEqual(column.close(), 2)
            self.refused(Full, column.add, "c")
            self.assertEqual([column.undo(), column.undo(), column.undo()], [0, 0, 3])
            self.assertEqual(column.add("c", "c"), 1)
            self.refused(Full, column.add, "c", "c")
            self.assertEqual(column.add("c"), 1)
            self.assertEqual(column.contents, ["c", "c", "c"])

    def test_full_behind_invalid_value(self):
        for column in self.kinds(1):
            for wrong in NO_VALUES[::3]:
                self.refused(InvalidValue, column.add, "a", "a", wrong)
                self.refused(InvalidValue, column.add, wrong, "a", "a")
            column.add("b")
            for wrong in NO_VALUES[::3]:
                self.refused(InvalidValue, column.add, wrong)
            self.refused(Full, column.add, "b")
            self.assertEqual(column.contents, ["b"])

    def test_blocks_and_twins(self):
        for column in self.kinds(3):
            column.add("a")
            column.begin()
            column.add("b", "b")
            self.refused(Full, column.add, "c")
            twin = column.twin()
            self.refused(Full, twin.add, "c")
            self.refused(NoBlock, twin.finish)
            column.finish()
            self.assertEqual(column.add("c", "c"), 1)
            self.assertEqual((twin.undo(), twin.cap), (2, 3))
            self.assertEqual(twin.add("ab"), 1)
            self.refused(Full, twin.add, "b", "b")
            self.assertEqual((twin.contents, column.contents), (["a", "ab"], ["a", "c", "c"]))

    def test_a_cap_of_its_own_for_each(self):
        one, other = CappedColumn(RULE, 2, cap=1), CappedColumn(RULE, 2, cap=2)
        other.add("a", "a")
        self.refused(Full, one.add, "a", "a")
        self.assertEqual((one.cap, other.cap), (1, 2))


class TestSorted(RefusalTest):
    def kinds(self, rule=RULE, most=2):
        return [SortedColumn(rule, most), SortedCappedColumn(rule, most, cap=900)]

    def test_values_that_go_on(self):
        for column in self.kinds():
            self.assertEqual(column.add(None, None, ""), 1)
            self.assertEqual(column.add("", "a", "aa", "ab"), 3)
            self.assertEqual(column.add(), 3)
            self.assertEqual(column.add("ab"), 4)
            self.assertEqual(column.add("b", "b", "ccc"), 5)
            self.assertEqual(column.contents, [None, None, "", "", "a", "aa", "ab", "ab", "b", "b", "ccc"])

    def test_each_pair_of_values(self):
        for one, other in itertools.product(range(len(ALL_VALUES)), repeat=2):
            values = [ALL_VALUES[one], ALL_VALUES[other]]
            for column in self.kinds():
                if one <= other:
                    self.assertEqual(column.add(*values), 1)
                else:
                    self.refused(InvalidValue, column.add, *values)
                    self.assertEqual(column.contents, [])
            for column in self.kinds():
                column.add(values[0])
                if one <= other:
                    self.assertEqual(column.add(values[1]), 1)
                else:
                    self.refused(InvalidValue, column.add, values[1])
                    self.refused(InvalidValue, column.add, values[1], "ccc")
                    self.assertEqual(column.contents, values[:1])

    def test_values_out_of_order_at_each_place(self):
        told = ["a", "ab", "b", "ba", "c"]
        for at in range(4):
            values = told[:at] + [told[at + 1], told[at]] + told[at + 2:]
            for column in self.kinds():
                column.add(None)
                self.refused(InvalidValue, column.add, *values)
                self.assertEqual(column.contents, [None])
                self.assertEqual(column.undo(), 1)
                self.refused(NothingToUndo, column.undo)

    def test_closed_pages_count(self):
        for column in self.kinds():
            column.add("b")
            column.close()
            self.refused(InvalidValue, column.add, "a")
            self.refused(InvalidValue, column.add, None)
            self.assertEqual(column.add("b", "c"), 2)
            self.refused(InvalidValue, column.add, "bccc")

    def test_what_is_taken_again_behind_an_undo(self):
        for column in self.kinds():
            column.add("a", "b")
            column.add("c")
            self.refused(InvalidValue, column.add, "b")
            column.undo()
            self.refused(InvalidValue, column.add, "ac")
            self.assertEqual(column.add("b"), 1)
            column.undo()
            column.undo()
            self.assertEqual(column.add(None, "a"), 1)

    def test_blocks_and_twins(self):
        for column in self.kinds():
            column.add("b")
            column.begin()
            column.add("c", "c")
            self.refused(InvalidValue, column.add, "b")
            twin = column.twin()
            column.finish()
            self.assertEqual(column.add("b"), 1)
            self.refused(InvalidValue, twin.add, "b")
            twin.undo()
            self.assertEqual(twin.add("ba"), 1)
            self.refused(InvalidValue, twin.add, "b")
            self.refused(InvalidValue, twin.twin().add, "b")

    def test_wrong_values(self):
        for column in self.kinds():
            column.add("b")
            for wrong in NO_VALUES:
                self.refused(InvalidValue, column.add, wrong)
                self.refused(InvalidValue, column.add, "c", wrong)
                self.refused(InvalidValue, column.add, wrong, "a")
            self.assertEqual(column.contents, ["b"])

    def test_ordinary_columns_take_values_in_any_sequence(self):
        for column in (Column(RULE, 2), CappedColumn(RULE, 2, cap=9)):
            self.assertEqual(column.add("b", "a", None), 1)
            self.assertEqual(column.add("a"), 2)


class TestBoth(RefusalTest):
    def test_invalid_value_ahead_of_full(self):
        column = SortedCappedColumn(RULE, 2, cap=2)
        self.refused(InvalidValue, column.add, "b", "a", "c")
        self.refused(Full, column.add, "a", "b", "c")
        column.add("b", "b")
        self.refused(InvalidValue, column.add, "a")
        self.refused(InvalidValue, column.add, "c", "b")
        self.refused(InvalidValue, column.add, None)
        self.refused(InvalidValue, column.add, 1)
        self.refused(Full, column.add, "b")
        self.refused(Full, column.add, "c", "c")
        self.assertEqual(column.contents, ["b", "b"])
        self.assertEqual(column.add(), 1)

    def test_it_takes_back_as_the_others_do(self):
        column = SortedCappedColumn(RULE, 2, cap=2)
        self.refused(NoBlock, column.finish)
        column.add("a", "c")
        column.begin()
        self.refused(NothingToUndo, column.undo)
        column.close()
        self.assertEqual(column.undo(), 0)
        column.finish()
        self.assertEqual(column.undo(), 2)
        self.assertEqual(column.add("a"), 0)


class TestDeeds(RefusalTest):
    def settings(self, rule, most):
        """Each class with one of the model."""
        return [(Column(rule, most), ToldColumn(rule, most)),
                (CappedColumn(rule, most, cap=5), ToldColumn(rule, most, cap=5)),
                (SortedColumn(rule, most), ToldColumn(rule, most, in_order=True)),
                (SortedCappedColumn(rule, most, cap=5), ToldColumn(rule, most, cap=5, in_order=True))]

    def test_against_the_model(self):
        throws = random.Random(61)
        refusals = []
        for _ in range(50):
            for column, told in self.settings(throws.choice(RULES), throws.choice((1, 2, 3))):
                for _ in range(30):
                    self.do(column, told, throws, refusals)
                    self.assertEqual((column.contents, column.notes), (told.contents(), told.notes()))
                    self.assertEqual(column.read, told.read)
                    if throws.randrange(9) == 0:
                        column, told = column.twin(), told.twin()
        self.assertGreater(refusals.count(Full), 100)
        self.assertGreater(refusals.count(InvalidValue), 100)

    def do(self, column, told, throws, refusals):
        word = throws.choice(("add", "add", "add", "close", "undo", "undo", "scan", "begin", "finish"))
        if word == "add":
            # Many of them go on from the last value.
            at = throws.randrange(3) + (2 * len(column) if throws.randrange(3) else 0)
            values = [throws.choice(ALL_VALUES[at:at + 3] or ["c"]) for _ in range(throws.randrange(4))]
            values = sorted(values, key=rank) if throws.randrange(3) else values
            error = told.refusal(values)
            refusals.append(error)
            if error is None:
                self.assertEqual(column.add(*values), told.add(*values))
            else:
                self.refused(error, column.add, *values)
        elif word == "close":
            self.assertEqual(column.close(), told.close())
        elif word == "undo" and told.can_undo():
            self.assertEqual(column.undo(), told.undo())
        elif word == "begin" or (word == "finish" and told.blocks):
            getattr(column, word)()
            getattr(told, word)()
        elif word == "scan":
            query = throws.choice(FILTERS)
            self.assertEqual(list(column.scan(Wish(query))), told.scan(query))


class TestErrors(RefusalTest):
    def test_wrong_arguments(self):
        rules = NO_RULES + NO_TEXTS + BIG + [Wish(("none",)), errors.InvalidRule("a")]
        for kind in (CappedColumn, SortedCappedColumn):
            for rule in rules:
                self.refused(InvalidRule, kind, rule, 2, cap=3)
                self.refused(InvalidRule, kind, cap=-1, most=2, rule=rule)
            for most in NO_MOST + BIG:
                self.refused(InvalidNumber, kind, RULE, most, cap=3)
                self.refused(InvalidNumber, kind, cap=3, most=most, rule=RULE)
                self.refused(InvalidRule, kind, cap=None, most=most, rule=("many",))
            for cap in NO_CAPS + BIG:
                self.refused(InvalidNumber, kind, RULE, 2, cap=cap)
                self.refused(InvalidNumber, kind, cap=cap, most=2, rule=RULE)
                self.refused(InvalidRule, kind, None, 2, cap=cap)

    def test_the_cap_is_passed_by_name_only(self):
        for kind in (CappedColumn, SortedCappedColumn):
            with self.assertRaises(TypeError):
                kind(RULE, 2, 3)
            for cap in (0, 1, 999, 1000):
                self.assertEqual(kind(RULE, 2, cap=cap).cap, cap)


if __name__ == "__main__":
    unittest.main()
