"""A second reading of [6] and [7] for the tests: notes of small pages, written out."""

import functools
import itertools

from tests.samples import texts_up_to

LACKS = ("many", "some", "hidden")
BIG_COUNT = 10 ** 30


def rules_up_to(letters):
    """All rules with numbers up to this one."""
    numbers = list(range(letters + 1))
    highs = [(way, number) for way in ("cut", "beyond") for number in numbers] + ["lost"]
    return [(lacks, low, high) for lacks in LACKS for low in numbers + ["lost"] for high in highs]


RULES = rules_up_to(1)
ALL_RULES = rules_up_to(6)


@functools.lru_cache(maxsize=None)
def told_beyond(start):
    """The least of all texts behind those that begin with a text: it is not longer than this text."""
    greater = [text for text in texts_up_to(len(start)) if text > start and text[:len(start)] != start]
    return greater[0] if greater else None


@functools.lru_cache(maxsize=None)
def told_high(high, greatest):
    if high == "lost":
        return None
    way, letters = high
    if len(greatest) <= letters:
        return greatest
    return greatest[:letters] if way == "cut" else told_beyond(greatest[:letters])


def told_note(rule, page):
    """The note of a page."""
    texts = [value for value in page if value is not None]
    lacking = len(page) - len(texts)
    lacks = {"many": lacking, "some": lacking != 0, "hidden": None}[rule[0]]
    if not texts:
        return (len(page), lacks, None, None)
    low = None if rule[1] == "lost" else "".join(list(min(texts))[:rule[1]])
    return (len(page), lacks, low, told_high(rule[2], max(texts)))


def kinds(note):
    """A note with the kinds of its parts: Python holds True and 1 for equal."""
    return tuple((type(part).__name__, part) for part in note)


def pages_of(values, most):
    """All pages of up to so many of these values, without regard to their sequence."""
    return [list(page) for many in range(1, most + 1)
            for page in itertools.combinations_with_replacement(values, many)]


# Notes by rules with numbers up to n depend on n + 1 letters of each text, so these stand for all
# pages of up to four values by RULES.
SHORT_TEXTS = texts_up_to(2)
PAGES = pages_of([None] + SHORT_TEXTS, 4)


@functools.lru_cache(maxsize=None)
def pages_by_note(rule):
    """The small pages with each note of a rule, by the note and its kinds."""
    told = {}
    for page in PAGES:
        told.setdefault(kinds(told_note(rule, page)), []).append(page)
    return told


@functools.lru_cache(maxsize=None)
def values_by_note(rule):
    """What stands in some small page with each note of a rule, by the note and its kinds."""
    return {note: {value for page in pages for value in page} for note, pages in pages_by_note(rule).items()}


def plain(told):
    """The note, without the kinds of its parts."""
    return tuple(part for _, part in told)


def span_told(texts, among=SHORT_TEXTS):
    """The span of all texts that go on like one of these: a text of the full length stands for all
    that begin with it, a shorter one for itself."""
    ends = dict(zip(among, among[1:] + [None]))
    parts = []
    for text in sorted(texts):
        if parts and parts[-1][1] == text:
            parts[-1] = (parts[-1][0], ends[text])
        else:
            parts.append((text, ends[text]))
    return tuple(parts)


NO_LACKS = ["Many", "none", "", "lost", "many ", "much", None, 0, 1, True, False, ("many",), ["many"], 10 ** 30]
NO_LOWS = [-1, 7, 8, 10 ** 30, -BIG_COUNT, True, False, None, "", "Lost", "lost ", "1", "a", "cut", "beyond",
           "hidden", ("cut", 1), ("lost",), (1,), [1], ["lost"], (), []]
NO_HIGHS = [0, 1, 6, True, False, None, "", "cut", "beyond", "Lost", "many", (), [], ("cut",), ("lost",), ("beyond",),
            (1,), ("cut", 1, 1), ("cut", 1, None), ("beyond", 1, "a"), ["cut", 1], ["beyond", 0], ["lost"],
            ("cut", -1), ("cut", 7), ("beyond", -1), ("beyond", 7), ("cut", 10 ** 30), ("cut", True),
            ("beyond", False), ("cut", None), ("cut", "1"), ("beyond", "lost"), ("cut", "lost"), ("cut", (1,)),
            ("Cut", 1), ("lost", 1), ("behind", 1), ("many", 1), ("", 1), (None, 1), (True, 1), (("cut",), 1),
            (1, "cut"), (0, 1), (("cut", 1),)]


def no_rules():
    """Rules in which one part is wrong, and other values."""
    told = [(wrong, 1, ("cut", 1)) for wrong in NO_LACKS] + [(wrong, "lost", "lost") for wrong in NO_LACKS]
    told += [("many", wrong, ("cut", 1)) for wrong in NO_LOWS] + [("hidden", wrong, "lost") for wrong in NO_LOWS]
    told += [("some", 1, wrong) for wrong in NO_HIGHS] + [("many", "lost", wrong) for wrong in NO_HIGHS]
    for rule in (("many", 1, ("cut", 1)), ("some", "lost", ("beyond", 0)), ("hidden", 0, "lost")):
        told += [list(rule), rule[:2], rule[1:], rule[:1], rule + (1,), rule + (None,), rule + rule, (rule,),
                 rule[::-1], (rule[1], rule[0], rule[2]), (rule[0], rule[2], rule[1]), (rule[0], *rule[2:], 1)]
    return told + [("many", 1, "cut", 1), ("many", 1, ("cut", 1), ()), "many", "many 1 cut 1", "abc", 1]


NO_RULES = no_rules()
NO_PAGE_VALUES = ["d", "A", "a\n", " ", 0, 1, True, False, (), [], ("a",), ["a"], [None], ("is", "a"), 10 ** 30]
NO_PAGES = [[], (), ("a",), (None,), ("a", None), None, "", "a", "abc", 0, 1, True, ("is", "a"), [["a"]], [[None]]]
NO_PAGES += [[wrong] for wrong in NO_PAGE_VALUES] + [["a", None, wrong] for wrong in NO_PAGE_VALUES]
NO_PAGES += [[wrong, "a"] for wrong in NO_PAGE_VALUES]
# None of these is a note by a rule ("many", n, ("cut", n)) with n from 1 on.
NO_NOTES = [
    (), (1,), (2, 0, "a"), (2, 0, "a", "b", "c"), [2, 0, "a", "b"], "2 0 a b", ("2", 0, "a", "b"), (2, "0", "a", "b"),
    (2, 0, ("a",), "b"), (2, 0, "a", ["b"]), (2, 0, "d", "e"), (2, 0, "a", "b\n"), (2, 0, 1, 2), (2, 0, True, "b"),
    (2, 0, "a", False), ((2, 0, "a", "b"),), (None, 0, "a", "b"), (0, 0, None, None), (-1, 0, None, None),
    (True, 0, "a", "a"), (True, 1, None, None), (2, 3, "a", "b"), (2, 2, "a", "b"), (2, -1, "a", "b"),
    (2, True, "a", "b"), (2, False, "a", "b"), (2, None, "a", "b"), (2, 0, "b", "a"), (2, 0, "a", None),
    (2, 0, None, "b"), (2, 0, None, None), (2, 0, "a" * 7, "b"), (2, 0, "a", "b" * 7), (1, 0, "a", "b"),
    (BIG_COUNT, BIG_COUNT + 1, None, None), (BIG_COUNT, BIG_COUNT, "a", "b"), (-BIG_COUNT, 0, "a", "b"), ["a", "b"],
]
