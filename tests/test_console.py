"""[18]: the commands of the console."""

import unittest

from pageskips import errors
from pageskips.columns import Column
from pageskips.console import Console
from pageskips.errors import InvalidCommand, InvalidIndex, InvalidNumber, InvalidRule, InvalidWords, NothingToUndo
from pageskips.filters import alike
from pageskips.notes import bars, grants
from pageskips.wishes import Wish
from pageskips.words import read_filter, read_value
from tests.column_model import FILTERS, ToldColumn, chance_settings
from tests.console_model import FILTER_WORDS, Refused, chance_commands, parted, told_command
from tests.note_model import ALL_RULES, NO_RULES
from tests.refusals import RefusalTest
from tests.samples import BIG, NO_TEXTS
from tests.test_columns import NO_MOST
from tests.word_model import told_filter

RULE = ("many", 1, ("cut", 1))
NO_WORDS = ["", " ", "a", "none", "-", "help", "Add a", "ADD a", "add", "add ", "add  a", " add a", "add a ", "add a b",
            "add d", "add A", "add 1", "add None", "add a\n", "add\na", "add --", "add " + "a" * 41, "add none none", "add- a",
            "undo ", " undo", "undo 1", "undo a", "Undo", "undo undo", "undo\n", "close ", " close", "close 1", "Close",
            "read ", " read", "read 0", "read none", "Read", "find", "Find none", " find none", "finds none", "find\nnone",
            "count", "count\nnone", " count none", "Count none", "note", "note ", "note a", "note -1", "note +1", "note 00",
            "note 01", "note 0 ", "note 0 0", "note  0", "note 1.0", "note 1000000000", "note 0000000000", "note 1" + "0" * 60,
            "note 0\n", "note none", "note -", "note 1e1", "bars", "bars ", "bars 0", "bars none", "bars 00 none",
            "bars 01 none", "bars -1 none", "bars a none", "bars  0 none", "bars 1000000000 none", "bars - none", "bars 0\n none",
            "bars none 0", "same", "same ", "same none", "same none none", "same none|none", "same none |none",
            "same none| none", "same none |", "same | none", "same |", "same | ", "same | |", "same | | none", "same | none | none",
            "Same none | none", "same none || none", "same none \n| none", "same  none", "samenone | none", " same  | ",
            "try", "try ", "try -", "try - ", "try a", "try a ", "try - help", "try  - read", "try - Read", "try read",
            "try - add", "try a add d", "try d read", "try A read", "try none", "try -  read", "try -- read", "try a b read",
            "try none note 00", "try - note", "try - find", "try - bars 0", "try - bars x none", "try - same none",
            "try - same | none", "try - try", "try - try -", "try - try - ", "try try - read", "try - try d read", "Try - read",
            " try - read", "try - read ", "try " + "a" * 41 + " read", "try - add " + "b" * 41, "try\n- read", "try -\nread",
            "begin", "finish", "twin", "scan none", "is a", "notes", "rule", "add a;undo", "?", "|"]


def filled(*values, rule=RULE, most=2):
    console = Console(rule, most)
    for value in values:
        console.execute("add " + value)
    return console


def shown(console):
    """All that a console tells of itself, down to the first deed."""
    told = [console.execute("read")]
    many = int(console.execute("close"))
    told += [console.execute("note " + str(page)) for page in range(many)]
    console.execute("undo")
    told += [console.execute("find " + words) for words in FILTER_WORDS] + [console.execute("read")]
    while True:
        try:
            told.append(console.execute("undo"))
        except NothingToUndo:
            return told


class ConsoleTest(RefusalTest):
    def tells(self, console, pairs):
        for command, told in pairs:
            with self.subTest(command=command):
                self.assertEqual(console.execute(command), told)

    def refuses_words(self, console, command, place):
        with self.subTest(command=command[:60]):
            with self.assertRaises(InvalidWords) as caught:
                console.execute(command)
            self.assertIs(type(caught.exception), InvalidWords)
            self.assertEqual(caught.exception.place, place)


class TestCommands(ConsoleTest):
    def test_add_undo_and_close(self):
        self.tells(Console(RULE, 2), [
            ("add bac", "0"), ("add bb", "1"), ("add none", "1"), ("add -", "2"), ("add c", "2"), ("close", "3"), ("close", "3"),
            ("find say yes", "0 1 2 3 4"), ("undo", "0"), ("undo", "0"), ("undo", "1"), ("undo", "1"), ("add a", "2"),
            ("find say yes", "0 1 2 3"), ("find is a", "3"), ("find is -", "-"), ("find none", "2"),
        ])
        self.tells(Console(rule=RULE, most=1), [("add a", "1"), ("close", "1"), ("add " + "c" * 40, "2"), ("undo", "1")])

    def test_it_tells_strings(self):
        console = filled("a", "b")
        for command in ("add c", "add c", "undo", "close", "read", "find none", "count none", "note 0", "bars 0 none",
                        "same none | none", "try - read"):
            self.assertIs(type(console.execute(command)), str)
            self.assertIs(type(console.execute(command=command)), str)

    def test_find_count_and_read(self):
        self.tells(filled("ab", "ac", "bb", "ca", "none"), [
            ("read", "0"), ("find begins a", "0 1"), ("read", "1"), ("count begins a", "2"), ("read", "2"),
            ("find is bb", "2"), ("read", "4"), ("find none", "4"), ("read", "5"), ("find say no", "-"), ("read", "6"),
            ("count say no", "0"), ("read", "7"), ("find say yes", "0 1 2 3 4"), ("count say yes", "5"), ("read", "9"),
            ("find or 2 is ab not not none", "0 4"), ("count not is ab", "3"),
        ])
        self.tells(Console(RULE, 3), [("find say yes", "-"), ("count say yes", "0"), ("read", "0")])

    def test_note(self):
        values = ["ab", "none", "-", "cc", "none", "none", "a"]
        for rule, told in [
            (("many", 1, ("cut", 2)), ["2 1 a ab", "2 0 - cc", "2 2 ? ?", "1 0 a a"]),
            (("some", "lost", ("beyond", 1)), ["2 yes ? b", "2 no ? ?", "2 yes ? ?", "1 no ? a"]),
            (("hidden", 0, "lost"), ["2 ? - ?", "2 ? - ?", "2 ? ? ?", "1 ? - ?"]),
            (("hidden", "lost", ("cut", 0)), ["2 ? ? -", "2 ? ? -", "2 ? ? ?", "1 ? ? -"]),
        ]:
            console = filled(*values, rule=rule)
            self.refused(InvalidIndex, console.execute, "note 3")
            console.execute("close")
            self.tells(console, [("note " + str(at), words) for at, words in enumerate(told)])
            self.refused(InvalidIndex, console.execute, "note 4")
            self.refused(InvalidIndex, console.execute, "note 999999999")

    def test_bars(self):
        console = filled("bac", "bb", "none", "none", "a", rule=("some", 1, ("cut", 1)))
        self.tells(console, [
            ("bars 0 is c", "bars"), ("bars 0 begins b", "grants"), ("bars 0 is bac", "open"), ("bars 0 none", "bars"),
            ("bars 1 none", "grants"), ("bars 1 begins -", "bars"), ("bars 0 say yes", "grants"), ("bars 1 say no", "bars"),
            ("bars 0 or 2 none begins b", "grants"), ("read", "0"),
        ])
        self.refused(InvalidIndex, console.execute, "bars 2 say yes")
        self.refused(InvalidIndex, console.execute, "bars 999999999 say yes")

    def test_same(self):
        self.tells(Console(RULE, 2), [
            ("same is a | among 2 a a", "yes"), ("same is a | is b", "no"), ("same none | not not none", "yes"),
            ("same say no | among 0", "no"), ("same or 0 | say no", "yes"), ("same above - | not is -", "yes"),
            ("same begins - | say yes", "no"), ("same and 2 is a is b | among 0", "yes"), ("read", "0"),
        ])


class TestTries(ConsoleTest):
    def test_what_is_done_inside_is_taken_back(self):
        console = filled("ab", "ac", "bb")
        self.tells(console, [
            ("try b find say yes", "0 1 2 3"), ("try - find say yes", "0 1 2"), ("try none count none", "1"),
            ("try - add a", "2"), ("try a add a", "2"), ("try a undo", "1"), ("try a close", "2"), ("try - close", "2"),
            ("try c note 1", "2 0 b c"), ("try c bars 1 is a", "bars"), ("try b bars 1 begins b", "grants"),
            ("try - note 0", "2 0 a a"), ("try - same none | none", "yes"), ("find say yes", "0 1 2"),
            ("try none find none", "3"), ("try c find is c", "3"),
        ])
        self.refused(InvalidIndex, console.execute, "note 1")
        self.assertEqual(shown(console)[-3:], ["1", "1", "1"])

    def test_the_sign_for_no_value_is_not_the_empty_text(self):
        self.tells(filled("a"), [("try - find say yes", "0"), ("try - count is -", "0"), ("try - find is a", "0")])
        self.tells(filled("a"), [("try - add -", "1"), ("try - try - find say yes", "0")])

    def test_read_is_left(self):
        console = filled("ab", "ac", "bb")
        self.tells(console, [
            ("try - find is ab", "0"), ("read", "2"), ("try b read", "2"), ("try b count is ab", "1"), ("read", "3"),
            ("try - try - read", "3"), ("try - bars 0 is a", "open"), ("read", "3"),
        ])

    def test_nothing_to_undo_inside(self):
        console = filled("a", "b", "c")
        for command in ("try - undo", "try - try - undo", "try a try - undo", "try a try b try - undo"):
            self.refused(NothingToUndo, console.execute, command)
        self.tells(console, [("try - try b undo", "1"), ("try b try b undo", "1"), ("undo", "1"), ("undo", "1"), ("undo", "1")])
        self.refused(NothingToUndo, console.execute, "undo")
        self.refused(NothingToUndo, console.execute, "try - undo")
        self.tells(console, [("try c undo", "1"), ("find say yes", "-")])

    def test_eight_and_nine_of_them(self):
        console = filled("a", "b", "c")
        for command, told in [
            ("read", "0"), ("add a", "2"), ("close", "2"), ("note 0", "2 0 a b"), ("bars 0 is c", "bars"),
            ("same none | none", "yes"), ("count is c", "1"), ("find is c", "2"),
        ]:
            for tries in range(1, 9):
                self.assertEqual(console.execute("try - " * tries + command), told)
            for tries in (9, 10, 30, 1000):
                self.refused(InvalidCommand, console.execute, "try - " * tries + command)
                self.refused(InvalidCommand, console.execute, "try a " * tries + command)
        self.assertEqual(console.execute("try c " * 8 + "find is c"), "2 3 4 5 6 7 8 9 10")
        self.assertEqual(console.execute("try c " * 8 + "undo"), "1")
        self.refused(NothingToUndo, console.execute, "try - " * 8 + "undo")
        self.refused(InvalidIndex, console.execute, "try - " * 8 + "note 1")
        self.refuses_words(console, "try a " * 8 + "find is", 1)
        self.refused(InvalidCommand, console.execute, "try - " * 9 + "find is")
        self.refused(InvalidCommand, console.execute, "try - " * 9 + "undo")
        self.tells(console, [("find say yes", "0 1 2"), ("undo", "1")])

    def test_a_command_in_words_of_a_filter_is_not_looked_at(self):
        console = filled("a")
        self.refuses_words(console, "find " + "try - " * 9 + "read", 0)
        self.refuses_words(console, "try - find try - read", 0)


class TestRefusedCommands(ConsoleTest):
    def test_words_that_are_no_command(self):
        console = filled("a", "b", "c")
        for command in NO_WORDS + ["x" * 8000, "add " * 2000, "try - " * 1333, " " * 8000, "note " + "1" * 7000]:
            with self.subTest(command=command[:60]):
                self.assertIs(parted(command), None)
                self.refused(InvalidCommand, console.execute, command)
                self.refused(InvalidCommand, console.execute, command=command)
                self.refused(InvalidCommand, console.execute, "try - " + command)
                self.refused(InvalidCommand, console.execute, "try b try none " + command)
        self.assertEqual(shown(console), shown(filled("a", "b", "c")))

    def test_other_values(self):
        console = filled("a", "b", "c")
        for value in [value for value in NO_TEXTS + BIG if type(value) is not str] + [
                ["add a"], ("add a",), ["add", "a"], b"undo", Wish(("none",)), console, errors.InvalidCommand("a")]:
            self.refused(InvalidCommand, console.execute, value)
            self.refused(InvalidCommand, console.execute, command=value)
        for value in NO_TEXTS:
            if type(value) is str:
                self.refused(InvalidCommand, console.execute, value)
        self.assertEqual(shown(console), shown(filled("a", "b", "c")))

    def test_words_of_filters(self):
        console = filled("a", "b", "c")
        for words, place in [("", 0), (" ", 0), (" none", 0), ("none ", 1), ("is", 1), ("is d", 1), ("is  a", 1), ("is a b", 2),
                             ("and 2 none", 3), ("none | none", 1), ("|", 0), ("not " * 20 + "none", 20), ("or 1000 none", 1),
                             ("among 2 a none", 3), ("is " + "a" * 41, 1), ("try - read", 0), ("none\n", 0), ("is a\n", 1)]:
            for ahead in ("find ", "count ", "bars 0 ", "try - find ", "try a try b count ", "try a bars 1 "):
                self.refuses_words(console, ahead + words, place)
            if "|" not in words.split(" "):
                self.refuses_words(console, "same " + words + " | none", place)
                self.refuses_words(console, "try a same " + words + " | none", place)
            self.refuses_words(console, "same none | " + words, place)
        self.assertEqual(shown(console), shown(filled("a", "b", "c")))

    def test_the_first_filter_of_same_comes_first(self):
        console = Console(RULE, 2)
        for command, place in [("same  | none", 0), ("same  | ", 0), ("same none | ", 0), ("same is | ", 1), ("same is | d", 1),
                               ("same is a b | is", 2), ("same is a | is", 1), ("same  | is a b", 0), ("same not | |", 1),
                               ("same none | | none", 0), ("same none | none | none", 1), ("same none  | none", 1),
                               ("same none |  none", 0), ("same  none | none", 0), ("same none | none ", 1)]:
            self.refuses_words(console, command, place)

    def test_invalid_index_ahead_of_invalid_words(self):
        console = filled("a", "b", "c")
        for words in ("none", "", "is", "is d", "none none", " "):
            self.refused(InvalidIndex, console.execute, "bars 1 " + words)
            self.refused(InvalidIndex, console.execute, "try - bars 1 " + words)
            self.refused(InvalidIndex, console.execute, "try a bars 2 " + words)
            self.refused(InvalidIndex, Console(RULE, 2).execute, "bars 0 " + words)
        self.refuses_words(console, "bars 0 is", 1)
        self.refuses_words(console, "try a bars 1 is", 1)
        self.tells(console, [("try a bars 1 is b", "bars"), ("try a bars 1 is a", "open")])
        self.assertEqual(shown(console), shown(filled("a", "b", "c")))

    def test_nothing_to_undo(self):
        console = Console(RULE, 2)
        self.refused(NothingToUndo, console.execute, "undo")
        self.refused(InvalidWords, console.execute, "find d")
        console.execute("count none")
        console.execute("try a add b")
        self.refused(NothingToUndo, console.execute, "undo")
        self.assertEqual(shown(console), shown(Console(RULE, 2)))

    def test_wrong_arguments_of_the_class(self):
        for rule in NO_RULES + NO_TEXTS + BIG + [Wish(("none",))]:
            self.refused(InvalidRule, Console, rule, 2)
            self.refused(InvalidRule, Console, most=0, rule=rule)
        for most in NO_MOST + BIG:
            self.refused(InvalidNumber, Console, RULE, most)
            self.refused(InvalidNumber, Console, most=most, rule=RULE)
        for most in (1, 1000):
            self.assertEqual(Console(RULE, most).execute("add a"), str(int(most == 1)))


class TestDeeds(ConsoleTest):
    def told(self, console, command):
        """What a command returns, or what it raises."""
        try:
            return console.execute(command)
        except errors.SkipError as error:
            return type(error), getattr(error, "place", None)

    def test_against_the_model(self):
        kinds = {}
        for seed, (rule, most) in enumerate(chance_settings(60, 81)):
            console, told = Console(rule, most), ToldColumn(rule, most)
            for command in chance_commands(60, seed):
                try:
                    wanted = told_command(told, command)
                except Refused as refused:
                    wanted = (refused.error, refused.place)
                self.assertEqual(self.told(console, command), wanted, (rule, most, command))
                self.assertEqual(console.execute("read"), str(told.read))
                kind = wanted[0] if type(wanted) is tuple else command.replace("try ", "").split(" ")[0]
                kinds[kind] = kinds.get(kind, 0) + 1
        for error in (InvalidCommand, InvalidIndex, InvalidWords, NothingToUndo):
            self.assertGreater(kinds[error], 30)

    def test_two_consoles_of_which_one_is_refused_much(self):
        for seed, (rule, most) in enumerate(chance_settings(10, 83)):
            console, other = Console(rule, most), Console(rule, most)
            for command in chance_commands(80, 100 + seed):
                if type(self.told(console, command)) is str:
                    other.execute(command)
            self.assertEqual(shown(console), shown(other))

    def test_against_a_column_and_the_functions(self):
        values = ["a", "ab", "-", "none", "cab", "b", "b", "none", "c", "ca", "abc"]
        for at, rule in enumerate(ALL_RULES[::5]):
            most = 1 + at % 4
            console, column = Console(rule, most), Column(rule, most)
            for word in values:
                self.assertEqual(console.execute("add " + word), str(column.add(read_value(word))))
            for query in FILTERS:
                words = told_filter(query)
                self.assertEqual(console.execute("find " + words).replace("-", "").split(),
                                 [str(index) for index in column.scan(Wish(query))])
                self.assertEqual(console.execute("count " + words), str(column.count(read_filter(words))))
                self.assertEqual(console.execute("read"), str(column.read))
                for page, noted in enumerate(column.notes):
                    told = (bars(rule, noted, query), grants(rule, noted, query))
                    words_told = {(True, False): "bars", (False, True): "grants", (False, False): "open"}[told]
                    self.assertEqual(console.execute("bars " + str(page) + " " + words), words_told)
                other = FILTERS[at % len(FILTERS)]
                self.assertEqual(console.execute("same " + words + " | " + told_filter(other)),
                                 "yes" if alike(query, other) else "no")
            self.assertEqual(console.execute("close"), str(column.close()))
            for _ in range(len(values) + 1):
                self.assertEqual(console.execute("undo"), str(column.undo()))


if __name__ == "__main__":
    unittest.main()
