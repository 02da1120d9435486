"""The console: a column that is told what to do by commands."""

from pageskips.columns import Column, check_index
from pageskips.errors import InvalidCommand, SkipError
from pageskips.filters import alike
from pageskips.notes import bars, grants
from pageskips.words import is_number_word, is_value_word, read_filter, word_value, write_value

MOST_TRIES = 8
MOST_DIGITS = 9


class Console:
    """A column and the commands for it."""

    def __init__(self, rule, most):
        self._column = Column(rule, most)

    def execute(self, command):
        """What a command returns."""
        added, parts = parts_of(command)
        return self._tried(added, parts)

    def _tried(self, added, parts):
        """What a command returns inside of as many blocks as there are lists, each with the values
        of its list added first."""
        if not added:
            return self._done(parts)
        first, *rest = added
        self._column.begin()
        try:
            for value in first:
                self._column.add(value)
            told = self._tried(rest, parts)
        except SkipError:
            self._column.finish()
            raise
        self._column.finish()
        return told

    def _done(self, parts):
        """What a command returns, given as its word and what stands behind it."""
        word = parts[0]
        if word == "add":
            return str(self._column.add(parts[1]))
        if word == "undo":
            return str(self._column.undo())
        if word == "close":
            return str(self._column.close())
        if word == "read":
            return str(self._column.read)
        if word == "find":
            return self._found(read_filter(parts[1]))
        if word == "count":
            return str(self._column.count(read_filter(parts[1])))
        if word == "note":
            return write_note(self._noted(parts[1]))
        if word == "bars":
            return self._verdict(self._noted(parts[1]), read_filter(parts[2]))
        return "yes" if alike(read_filter(parts[1]), read_filter(parts[2])) else "no"

    def _found(self, query):
        indexes = list(self._column.scan(query))
        return " ".join([str(index) for index in indexes]) if indexes else "-"

    def _noted(self, page):
        """The note of a closed page."""
        notes = self._column.notes
        check_index(page, len(notes))
        return notes[page]

    def _verdict(self, noted, query):
        """Whether a note bars a filter, grants it or leaves it open."""
        if bars(self._column.rule, noted, query):
            return "bars"
        return "grants" if grants(self._column.rule, noted, query) else "open"


def write_note(noted):
    """A note as words."""
    many, lacks, low, high = noted
    return f"{many} {lacks_word(lacks)} {bound_word(low)} {bound_word(high)}"


def lacks_word(lacks):
    if lacks is None:
        return "?"
    if type(lacks) is bool:
        return "yes" if lacks else "no"
    return str(lacks)


def bound_word(bound):
    return "?" if bound is None else write_value(bound)


def parts_of(command):
    """The tuple of the lists of what each word `try` ahead of a command adds, and the parts of the
    command behind them."""
    if type(command) is not str:
        raise InvalidCommand("a command is a string")
    words = command.split(" ")
    added = []
    while words[0] == "try" and len(words) > 2 and len(added) < MOST_TRIES:
        added.append(tried_values(words[1]))
        words = words[2:]
    return (added, known_parts(words))


def tried_values(word):
    """The list of what is added behind the word `try`: one value, or none at all."""
    if word == "-":
        return []
    return [value_of(word)]


def value_of(word):
    if not is_value_word(word):
        raise InvalidCommand("this is not the word of a value")
    return word_value(word)


def index_of(word):
    if not is_number_word(word, MOST_DIGITS):
        raise InvalidCommand("this is not the number of a page")
    return int(word)


def known_parts(words):
    """The tuple of the word of a command and what stands behind it: values, indexes, and the words
    of filters as they are told."""
    word = words[0]
    if word in ("undo", "close", "read") and len(words) == 1:
        return (word,)
    if word == "add" and len(words) == 2:
        return (word, value_of(words[1]))
    if word == "note" and len(words) == 2:
        return (word, index_of(words[1]))
    if word in ("find", "count") and len(words) > 1:
        return (word, " ".join(words[1:]))
    if word == "bars" and len(words) > 2:
        return (word, index_of(words[1]), " ".join(words[2:]))
    if word == "same" and "|" in words:
        return (word, *told_apart(words[1:]))
    raise InvalidCommand("there is no such command")


def told_apart(words):
    """The tuple of the words of two filters with the word | between."""
    bar = words.index("|")
    # Without a word, perhaps an empty one, on each side a space is missing there.
    if bar == 0 or bar == len(words) - 1:
        raise InvalidCommand("a filter stands on each side of the word |")
    return (" ".join(words[:bar]), " ".join(words[bar + 1:]))
