"""A second reading of [16] for the tests: columns as lists of pages, kept whole for each deed."""

import random

from pageskips import errors
from tests.note_model import RULES, SHORT_TEXTS, kinds, told_note, values_by_note
from tests.samples import told_answer

# What small pages by RULES tell of filters with texts of one letter, they tell of all pages.
FILTERS = [(word, text) for word in ("is", "below", "above", "begins") for text in ("", "a", "b", "c")]
FILTERS += [("none",), ("say", True), ("say", False), ("among", ("c", "a")), ("among", ()), ("not", ("none",)),
            ("not", ("is", "a")), ("or", (("none",), ("is", "b"))), ("or", (("none",), ("begins", ""))),
            ("and", (("above", "a"), ("below", "c"))), ("not", ("or", (("none",), ("begins", "b"))))]
VALUES = [None] + SHORT_TEXTS


def told_passes(query, value):
    return told_answer(query, value) == "yes"


def told_way(rule, page, query):
    """What is done with a closed page of up to 4 values by one of RULES: all small pages with its note decide."""
    passing = [told_passes(query, value) for value in values_by_note(rule)[kinds(told_note(rule, page))]]
    if not any(passing):
        return "bars"
    return "grants" if all(passing) else "open"


def rank(value):
    """None comes ahead of all texts."""
    return (0, "") if value is None else (1, value)


class ToldColumn:
    """A column; what it was ahead of each deed is kept whole."""

    def __init__(self, rule, most, cap=None, in_order=False):
        self.rule, self.most, self.cap, self.in_order = rule, most, cap, in_order
        self.closed, self.loose = [], []
        self.past = []
        self.blocks = []
        self.read = 0

    def contents(self):
        return [value for page in self.closed for value in page] + self.loose

    def notes(self):
        return [told_note(self.rule, page) for page in self.closed]

    def refusal(self, values):
        """The error that an add of values raises, None if it raises none."""
        goes_on = self.contents()[-1:] + list(values)
        if self.in_order and goes_on != sorted(goes_on, key=rank):
            return errors.InvalidValue
        if self.cap is not None and len(self.contents()) + len(values) > self.cap:
            return errors.Full
        return None

    def add(self, *values):
        self.past.append((list(self.closed), list(self.loose), len(values)))
        for value in values:
            self.loose = self.loose + [value]
            if len(self.loose) == self.most:
                self.closed, self.loose = self.closed + [self.loose], []
        return len(self.closed)

    def close(self):
        self.past.append((list(self.closed), list(self.loose), 0))
        if self.loose:
            self.closed, self.loose = self.closed + [self.loose], []
        return len(self.closed)

    def can_undo(self):
        """Whether there is a deed, and inside of a block one of this block."""
        return len(self.past) > (self.blocks[-1][2] if self.blocks else 0)

    def undo(self):
        self.closed, self.loose, many = self.past.pop()
        return many

    def begin(self):
        self.blocks.append((list(self.closed), list(self.loose), len(self.past), list(self.past)))

    def finish(self):
        self.closed, self.loose, _, self.past = self.blocks.pop()

    def twin(self):
        other = ToldColumn(self.rule, self.most, self.cap, self.in_order)
        other.closed, other.loose, other.past = list(self.closed), list(self.loose), list(self.past)
        other.read = self.read
        return other

    def scan(self, query, counted=True):
        """The list of the indexes that a whole scan tells."""
        ways = [told_way(self.rule, page, query) for page in self.closed] + ["open"] * (self.loose != [])
        self.read += ways.count("open") if counted else 0
        return [at for at, value in enumerate(self.contents()) if told_passes(query, value)]


def chance_deeds(many, seed):
    """Deeds by a fixed sequence of throws: tuples of a word and what it takes."""
    throws = random.Random(seed)
    deeds = []
    for _ in range(many):
        word = throws.choice(("add", "add", "add", "add", "close", "undo", "undo", "scan", "scan", "scan", "begin",
                              "finish", "twin"))
        if word == "add":
            few = throws.sample(VALUES, 3)
            deeds.append((word, [throws.choice(few) for _ in range(throws.choice((0, 1, 1, 2, 3, 6)))]))
        elif word == "scan":
            deeds.append((word, throws.choice(FILTERS), throws.choice((True, True, False))))
        else:
            deeds.append((word,))
    return deeds


def chance_settings(many, seed):
    """Tuples of a rule and a number of values in a page, by a fixed sequence of throws."""
    throws = random.Random(seed)
    return [(throws.choice(RULES), throws.choice((1, 2, 3, 4))) for _ in range(many)]
