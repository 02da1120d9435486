"""[2], [16]: columns, their pages, what is taken back, blocks and twins."""

import unittest

from pageskips import errors
from pageskips.columns import CappedColumn, Column, SortedCappedColumn, SortedColumn
from pageskips.errors import InvalidIndex, InvalidNumber, InvalidRule, InvalidValue, NoBlock, NothingToUndo
from pageskips.wishes import Wish
from tests.column_model import ToldColumn, chance_deeds, chance_settings
from tests.note_model import ALL_RULES, NO_RULES, told_note
from tests.refusals import RefusalTest
from tests.samples import BIG, FILTERS, NO_TEXTS

RULE = ("some", 1, ("cut", 1))
NO_MOST = [0, -1, 1001, 10 ** 30, -(10 ** 30), True, False, None, "1", "", (), [1], (1,)]
NO_VALUES = [value for value in NO_TEXTS if value is not None] + BIG + FILTERS[::9]
NO_VALUES += [Wish(("is", "a")), Column(RULE, 2), errors.InvalidValue("a")]


def filled(*values, rule=RULE, most=2):
    column = Column(rule, most)
    column.add(*values)
    return column


class ColumnTest(RefusalTest):
    def check(self, column, contents, notes, read=None):
        """What a column shows."""
        self.assertEqual(column.contents, contents)
        self.assertEqual(column.notes, notes)
        self.assertEqual(repr(column.notes), repr(notes))
        self.assertEqual(len(column), len(contents))
        self.assertEqual([column[at] for at in range(len(contents))], contents)
        if read is not None:
            self.assertEqual(column.read, read)

    def check_told(self, column, told):
        """It shows what a column of the model has."""
        self.check(column, told.contents(), told.notes(), told.read)
        self.assertEqual((column.rule, column.most), (told.rule, told.most))


class TestAdding(ColumnTest):
    def test_an_empty_column(self):
        for column in (Column(RULE, 3), Column(most=3, rule=RULE)):
            self.check(column, [], [], 0)
            self.assertEqual((column.rule, column.most), (RULE, 3))
            self.assertIs(type(column), Column)

    def test_all_rules_and_numbers(self):
        for rule in ALL_RULES:
            for most in (1, 1000):
                column = Column(rule, most)
                self.assertEqual((column.rule, column.most), (rule, most))

    def test_pages_are_closed_as_soon_as_they_are_full(self):
        column = Column(RULE, 2)
        self.assertEqual(column.add("bac"), 0)
        self.check(column, ["bac"], [])
        self.assertEqual(column.add("bb"), 1)
        self.check(column, ["bac", "bb"], [(2, False, "b", "b")])
        self.assertEqual(column.add(None), 1)
        self.assertEqual(column.add("c", "a"), 2)
        self.check(column, ["bac", "bb", None, "c", "a"], [(2, False, "b", "b"), (2, True, "c", "c")])

    def test_one_add_of_several_pages(self):
        column = Column(("many", 1, ("beyond", 1)), 3)
        self.assertEqual(column.add("a", None, "ba", None, None, None, "c", "cc"), 2)
        self.check(column, ["a", None, "ba", None, None, None, "c", "cc"], [(3, 1, "a", "c"), (3, 3, None, None)])
        self.assertEqual(column.add("cc", "b", "b", "b", "b", "b", "b"), 5)
        self.assertEqual(column.notes[2:], [(3, 0, "c", None), (3, 0, "b", "b"), (3, 0, "b", "b")])

    def test_add_of_no_values(self):
        column = Column(RULE, 2)
        self.assertEqual(column.add(), 0)
        self.check(column, [], [])
        column.add("a", "b", "c")
        self.assertEqual(column.add(), 1)
        self.check(column, ["a", "b", "c"], [(2, False, "a", "b")])

    def test_pages_of_one_value_and_of_many(self):
        column = Column(RULE, 1)
        self.assertEqual(column.add("a", None, "bc"), 3)
        self.assertEqual(column.notes, [(1, False, "a", "a"), (1, True, None, None), (1, False, "b", "b")])
        column = Column(RULE, 1000)
        self.assertEqual(column.add(*["a"] * 999), 0)
        self.assertEqual(column.add("b"), 1)
        self.assertEqual(column.add(*[None] * 2500), 3)
        self.assertEqual(column.notes, [(1000, False, "a", "b"), (1000, True, None, None), (1000, True, None, None)])

    def test_close(self):
        column = Column(RULE, 3)
        self.assertEqual(column.close(), 0)
        self.check(column, [], [])
        column.add("a")
        self.assertEqual(column.close(), 1)
        self.assertEqual(column.close(), 1)
        self.check(column, ["a"], [(1, False, "a", "a")])
        self.assertEqual(column.add("b", None), 1)
        self.assertEqual(column.close(), 2)
        self.assertEqual(column.add("b", "b", "b", "c"), 3)
        self.check(column, ["a", "b", None, "b", "b", "b", "c"],
                   [(1, False, "a", "a"), (2, True, "b", "b"), (3, False, "b", "b")])
        self.assertEqual(column.close(), 4)

    def test_notes_by_all_rules(self):
        pages = [["abcabca", None], ["cc", "ccc"], [None, None], ["", "b"]]
        for rule in ALL_RULES:
            column = Column(rule, 2)
            self.assertEqual(column.add(*[value for page in pages for value in page]), 4)
            self.check(column, [value for page in pages for value in page], [told_note(rule, page) for page in pages])

    def test_wrong_values(self):
        column = filled("a", "b", "c")
        for wrong in NO_VALUES:
            with self.subTest(wrong=repr(wrong)[:60]):
                self.refused(InvalidValue, column.add, wrong)
                self.refused(InvalidValue, column.add, "a", None, "b", wrong)
                self.refused(InvalidValue, column.add, wrong, "a")
                self.refused(InvalidValue, column.add, "a", "b", "b", wrong, "b")
        self.check(column, ["a", "b", "c"], [(2, False, "a", "b")])
        self.assertEqual(column.undo(), 3)
        self.refused(NothingToUndo, column.undo)

    def test_returned_lists_are_new(self):
        column = filled("a", "b", "c")
        for told in (column.contents, column.notes):
            told.append("a")
            told[0] = None
        self.check(column, ["a", "b", "c"], [(2, False, "a", "b")])
        self.assertIsNot(column.contents, column.contents)
        self.assertIsNot(column.notes, column.notes)
        kept, notes = column.contents, column.notes
        column.add("a", "a")
        column.undo()
        column.undo()
        self.assertEqual((kept, notes), (["a", "b", "c"], [(2, False, "a", "b")]))

    def test_a_list_that_was_passed_may_change(self):
        values = ["a", "b", "c"]
        column = filled(*values)
        values[0] = "c"
        values.clear()
        self.check(column, ["a", "b", "c"], [(2, False, "a", "b")])

    def test_contents_and_notes_are_passed_back(self):
        column = filled("a", None, "c", "b")
        other = Column(column.rule, column.most)
        other.add(*column.contents)
        self.assertEqual((other.contents, other.notes), (column.contents, column.notes))

    def test_the_properties_are_not_assigned(self):
        column = filled("a")
        for name in ("rule", "most", "contents", "notes", "read"):
            with self.assertRaises(AttributeError):
                setattr(column, name, [])
        self.check(column, ["a"], [], 0)


class TestItems(ColumnTest):
    def test_each_index(self):
        column = filled("a", None, "", "cab", "b")
        self.assertEqual([column[0], column[1], column[2], column[3], column[4]], ["a", None, "", "cab", "b"])
        column.undo()
        self.refused(InvalidIndex, lambda: column[0])

    def test_wrong_indexes(self):
        for column in (Column(RULE, 2), filled("a"), filled("a", "b", "c")):
            many = len(column)
            wrongs = [value for value in NO_TEXTS + BIG + FILTERS[::9] if type(value) is not int or value >= many]
            for wrong in wrongs + [many, many + 1, -1, -many, 10 ** 30, -(10 ** 30), True, False, None, "a", "0", (0,),
                                   [0], Wish(("none",)), column]:
                with self.subTest(many=many, wrong=repr(wrong)[:60]):
                    self.refused(InvalidIndex, lambda: column[wrong])

    def test_no_iteration_and_no_comparison(self):
        column = filled("a", "b", "c")
        for iterated in (iter, list, tuple, sorted, enumerate):
            with self.assertRaises(TypeError):
                iterated(column)
        with self.assertRaises(TypeError):
            for _ in column:
                pass
        self.assertIs(column == filled("a", "b", "c"), False)
        self.assertIs(column == column, True)


class TestUndo(ColumnTest):
    def test_adds(self):
        column = Column(RULE, 2)
        column.add("a")
        column.add("b", "c", "a")
        column.add()
        self.assertEqual(column.undo(), 0)
        self.check(column, ["a", "b", "c", "a"], [(2, False, "a", "b"), (2, False, "a", "c")])
        self.assertEqual(column.undo(), 3)
        self.check(column, ["a"], [])
        self.assertEqual(column.add("c"), 1)
        self.check(column, ["a", "c"], [(2, False, "a", "c")])
        self.assertEqual(column.undo(), 1)
        self.assertEqual(column.undo(), 1)
        self.check(column, [], [])
        self.refused(NothingToUndo, column.undo)

    def test_closes(self):
        column = Column(RULE, 3)
        column.close()
        column.add("a")
        column.close()
        column.close()
        self.assertEqual(column.undo(), 0)
        self.assertEqual(column.notes, [(1, False, "a", "a")])
        self.assertEqual(column.undo(), 0)
        self.assertEqual(column.notes, [])
        self.assertEqual(column.add("b", "c"), 1)
        self.assertEqual(column.notes, [(3, False, "a", "c")])
        self.assertEqual([column.undo(), column.undo(), column.undo()], [2, 1, 0])
        self.refused(NothingToUndo, column.undo)

    def test_a_page_that_an_add_closed_is_open_again(self):
        column = Column(RULE, 3)
        column.add("a", "b")
        column.add("c", "c", "c", "a")
        self.assertEqual(column.undo(), 4)
        self.check(column, ["a", "b"], [])
        self.assertEqual(column.add(None), 1)
        self.check(column, ["a", "b", None], [(3, True, "a", "b")])

    def test_nothing_to_undo_in_a_new_column(self):
        column = Column(RULE, 1)
        self.refused(NothingToUndo, column.undo)
        self.refused(InvalidValue, column.add, 1)
        list(column.scan(("none",)))
        self.refused(NothingToUndo, column.undo)
        self.check(column, [], [], 0)

    def test_it_leaves_read(self):
        column = filled("a", "b", "c")
        self.assertEqual(column.count(("is", "c")), 1)
        self.assertEqual(column.read, 1)
        column.undo()
        self.assertEqual(column.read, 1)


class TestBlocks(ColumnTest):
    def test_a_block_is_taken_back(self):
        column = filled("a", "b", "c")
        self.assertIs(column.begin(), None)
        column.add("c", "a")
        column.close()
        column.count(("is", "a"))
        self.check(column, ["a", "b", "c", "c", "a"], [(2, False, "a", "b"), (2, False, "c", "c"), (1, False, "a", "a")])
        read = column.read
        self.assertEqual(read, 2)
        self.assertIs(column.finish(), None)
        self.check(column, ["a", "b", "c"], [(2, False, "a", "b")], read)
        self.assertEqual(column.undo(), 3)
        self.refused(NothingToUndo, column.undo)

    def test_undo_inside_takes_back_what_was_done_inside(self):
        column = filled("a", "b", "c")
        column.begin()
        self.refused(NothingToUndo, column.undo)
        column.add("c")
        column.close()
        self.assertEqual([column.undo(), column.undo()], [0, 1])
        self.refused(NothingToUndo, column.undo)
        self.check(column, ["a", "b", "c"], [(2, False, "a", "b")])
        column.finish()
        self.assertEqual(column.undo(), 3)

    def test_blocks_in_blocks(self):
        column = filled("a")
        for many in range(20):
            column.begin()
            self.refused(NothingToUndo, column.undo)
            self.assertEqual(len(column), 1 + many)
            column.add("b")
        for many in range(20):
            self.assertEqual(column.undo(), 1)
            self.refused(NothingToUndo, column.undo)
            column.add("c", "c")
            column.finish()
            self.assertEqual(len(column), 20 - many)
        self.refused(NoBlock, column.finish)
        self.check(column, ["a"], [])

    def test_no_block(self):
        column = Column(RULE, 2)
        self.refused(NoBlock, column.finish)
        column.begin()
        column.finish()
        self.refused(NoBlock, column.finish)
        column.add("a")
        self.refused(NoBlock, column.finish)
        self.check(column, ["a"], [])

    def test_errors_inside_leave_the_block(self):
        column = filled("a")
        column.begin()
        column.add("b")
        self.refused(InvalidValue, column.add, "a", 1)
        self.refused(InvalidIndex, lambda: column[2])
        column.finish()
        self.check(column, ["a"], [])
        self.refused(NoBlock, column.finish)


class TestTwins(ColumnTest):
    def columns(self):
        return [Column(RULE, 2), CappedColumn(RULE, 2, cap=50), SortedColumn(RULE, 2),
                SortedCappedColumn(RULE, 2, cap=50)]

    def test_the_same_class_and_all_that_it_shows(self):
        for column in self.columns():
            column.add("a", "b", "c")
            column.count(("is", "c"))
            twin = column.twin()
            self.assertIs(type(twin), type(column))
            self.assertIsNot(twin, column)
            self.check(twin, ["a", "b", "c"], [(2, False, "a", "b")], 1)
            self.assertEqual((twin.rule, twin.most), (RULE, 2))
            if isinstance(column, CappedColumn):
                self.assertEqual(twin.cap, 50)

    def test_both_go_their_own_ways(self):
        for column in self.columns():
            column.add("a", "b", "c")
            twin = column.twin()
            twin.add("c")
            twin.count(("say", True))
            twin.count(("is", "c"))
            self.check(column, ["a", "b", "c"], [(2, False, "a", "b")], 0)
            self.check(twin, ["a", "b", "c", "c"], [(2, False, "a", "b"), (2, False, "c", "c")], 1)
            column.undo()
            column.close()
            self.check(column, [], [], 0)
            self.check(twin, ["a", "b", "c", "c"], [(2, False, "a", "b"), (2, False, "c", "c")], 1)
            self.assertEqual([twin.undo(), twin.undo()], [1, 3])
            self.refused(NothingToUndo, twin.undo)
            self.assertEqual(column.undo(), 0)

    def test_a_twin_inside_of_blocks_is_outside_of_them(self):
        for column in self.columns():
            column.add("a")
            column.begin()
            column.add("b", "b")
            column.begin()
            column.close()
            twin = column.twin()
            self.refused(NoBlock, twin.finish)
            self.check(twin, ["a", "b", "b"], [(2, False, "a", "b"), (1, False, "b", "b")])
            self.assertEqual([twin.undo(), twin.undo(), twin.undo()], [0, 2, 1])
            self.refused(NothingToUndo, twin.undo)
            self.check(column, ["a", "b", "b"], [(2, False, "a", "b"), (1, False, "b", "b")])
            self.assertEqual(column.undo(), 0)
            self.refused(NothingToUndo, column.undo)
            column.finish()
            column.finish()
            self.check(column, ["a"], [])

    def test_twins_of_twins(self):
        column = filled("a", "b", "c")
        other = column.twin().twin()
        self.assertEqual(other.undo(), 3)
        self.check(other.twin(), [], [])
        self.check(column.twin(), ["a", "b", "c"], [(2, False, "a", "b")])

    def test_twins_of_twins_with_blocks(self):
        column = filled("a")
        twin = column.twin()
        twin.begin()
        twin.add("b")
        self.refused(NoBlock, column.finish)
        twin.finish()
        self.check(twin, ["a"], [])


class TestDeeds(ColumnTest):
    def do(self, column, told, deed):
        """A deed for a column and for one of the model; both go on, or their twins."""
        if deed[0] == "add":
            self.assertEqual(column.add(*deed[1]), told.add(*deed[1]))
        elif deed[0] == "close":
            self.assertEqual(column.close(), told.close())
        elif deed[0] == "undo" and told.can_undo():
            self.assertEqual(column.undo(), told.undo())
        elif deed[0] == "undo":
            self.refused(NothingToUndo, column.undo)
        elif deed[0] == "begin" or (deed[0] == "finish" and told.blocks):
            self.assertIs(getattr(column, deed[0])(), getattr(told, deed[0])())
        elif deed[0] == "finish":
            self.refused(NoBlock, column.finish)
        elif deed[0] == "twin":
            return column.twin(), told.twin()
        elif deed[2]:
            self.assertEqual(column.count(deed[1]), len(told.scan(deed[1])))
        else:
            self.assertEqual(list(column.scan(Wish(deed[1]), counted=False)), told.scan(deed[1], False))
        return column, told

    def test_long_sequences_of_deeds(self):
        for seed, (rule, most) in enumerate(chance_settings(60, 31)):
            column, told = Column(rule, most), ToldColumn(rule, most)
            kept = []
            for deed in chance_deeds(80, seed):
                if deed[0] == "twin":
                    kept.append((column, told))
                column, told = self.do(column, told, deed)
                self.check_told(column, told)
            for column, told in kept:
                self.check_told(column, told)
            # What a twin did leaves its original able to go on, too.
            for number, (column, told) in enumerate(kept[-9:]):
                for deed in chance_deeds(8, 1000 + number):
                    column, told = self.do(column, told, deed)
                    self.check_told(column, told)


class TestErrors(ColumnTest):
    def test_wrong_arguments(self):
        rules = NO_RULES + NO_TEXTS + BIG + [Wish(("none",)), errors.InvalidRule("a")]
        for kind in (Column, SortedColumn):
            for rule in rules:
                self.refused(InvalidRule, kind, rule, 2)
                self.refused(InvalidRule, kind, most=2, rule=rule)
            for rule in rules[::9]:
                self.refused(InvalidRule, kind, rule, 0)
                self.refused(InvalidRule, kind, most="a", rule=rule)
            for most in NO_MOST + BIG:
                self.refused(InvalidNumber, kind, RULE, most)
                self.refused(InvalidNumber, kind, most=most, rule=RULE)


if __name__ == "__main__":
    unittest.main()
