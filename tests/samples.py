"""Values for the tests, and a second way to tell what the document says of them."""

import itertools
import random

from pageskips import errors


def texts_up_to(length):
    """All texts of at most so many letters, in ascending sequence."""
    return sorted("".join(letters) for many in range(length + 1)
                  for letters in itertools.product("abc", repeat=many))


SHORT = texts_up_to(2)
# One letter more than in the ends of the ranges of the tests: unlike spans part on these.
TEXTS = texts_up_to(4)
VALUES = [None] + TEXTS

FULL = (("", None),)
WORDS = ("yes", "no", "open")

NO_STRINGS = [
    None, True, False, 0, 1, -1, 10 ** 30, -(10 ** 30), (), [], ("a",), ["a"], [None], (None,),
    ("is", "a"), (("", None),), errors.InvalidText("a"), errors.InvalidWords(0),
]
NO_TEXTS = NO_STRINGS + [
    "d", "A", "aBc", " ", "a ", " a", "a b", "\n", "a\n", "\na", "a\nb", "0", "-", "none", "yes",
    "ad", "da", "abcdabc", "c" * 4000 + "d" + "a" * 3999, "a" * 7999 + "\n", "~" * 8000,
]


def deep(value, levels, make=lambda inner: (inner,)):
    for _ in range(levels):
        value = make(value)
    return value


BIG = [
    deep("a", 40), deep("a", 40, lambda inner: [inner]), deep((), 39), ["a"] * 19999, ("a",) * 19999,
    [("a", "b")] * 6000 + [1], tuple([("a", "b")] * 6000), ("and",) * 19999, [0] * 19999,
    deep(("is", 1), 39, lambda inner: ("not", inner)),
    deep(("say", 1), 19, lambda inner: ("and", (inner,))),
    ("or", (("say", True),) * 6000 + (("say", 1),)), ("among", ("a",) * 19000 + ("d",)),
]

NO_RANGES = [
    (), ("a",), ("a", "b", "c"), ["a", "b"], ("b", "a"), ("a", "a"), ("", ""), (None, None),
    (None, "a"), ("a", 1), ("a", True), (0, "a"), ("a", "d"), ("d", None), ("a", "b\n"), ("a", ("b",)),
    "ab", "a", None, 1, True, (("a", "b"),), [("a", "b")], errors.InvalidSpan("a"), ("aa", "a"),
]

NO_SPANS = [
    (("b", "c"), ("a", "b")), (("b", "ba"), ("a", "aa")), (("a", "b"), ("b", "c")),
    (("a", "b"), ("aa", "c")), (("a", "c"), ("aa", "b")), (("a", "b"), ("a", "b")),
    (("a", None), ("b", None)), (("a", None), ("b", "c")), (("", None), ("", None)),
    (("a", "aa"), ("aa", "ab")), [("a", "b")], [], [("", None)], (["a", "b"],), ("a", "b"),
    (("a", "b"), ["c", None]), (("a", "b"), None), ("a", None), ((("a", "b"),),), ((),), ("",),
    (("a", "b"), ("bb", "bc"), ("bc", "c")), (("a", "b"), ("c", None), ("ba", "bb")),
    None, True, False, 0, 1, "", "a", "span", errors.InvalidSpan("a"),
] + [(wrong,) for wrong in NO_RANGES] + [(("", "a"), wrong) for wrong in NO_RANGES]

LEAF_FILTERS = [(word, text) for word in ("is", "below", "above", "begins")
                for text in ("", "a", "ac", "b", "c", "cc", "bca")]
LEAF_FILTERS += [("among", texts) for texts in (
    (), ("",), ("b", "a"), ("a", "a"), ("a", "aa", "b"), ("cc", "", "ab", "c", "ab"))]
LEAF_FILTERS += [("none",), ("say", True), ("say", False)]

NO_LEAF_FILTERS = [
    (), ("none", None), ("none", "a"), ("none", ()), ["none"], "none", ("None",), ("any",), ("all", ()),
    ("is",), ("is", "a", "b"), ["is", "a"], ("is", None), ("is", "d"), ("is", 1), ("is", ("a",)),
    ("is", "a\n"), ("below",), ("below", None), ("below", "A"), ("below", "a", "a"), ("above",),
    ("above", "a b"), ("above", True), ("above", "a", None), ("begins",), ("begins", ["a"]),
    ("begins", "a-"), ("begins", "", ""), ("Is", "a"), ("is ", "a"), ("ends", "a"), ("", "a"), ("a", "is"),
    ("among",), ("among", "a"), ("among", ["a"]), ("among", "a", "b"), ("among", ("a", None)),
    ("among", ("a", "d")), ("among", (("a",),)), ("among", ("a", 1)), ("among", None), ("among", (), ()),
    ("say",), ("say", 1), ("say", 0), ("say", None), ("say", "yes"), ("say", "True"), ("say", True, False),
    ("say", (True,)), ("say", ()),
    ("not",), ("not", None), ("not", ()), ("not", "none"), ("not", ["none"]), ("not", (("none",),)),
    ("not", ("none",), ("none",)), ("not", True),
    ("and",), ("and", ("none",)), ("and", [("none",)]), ("and", []), ("and", ("none",), ("none",)),
    ("and", (), ()), ("and", None), ("and", True), ("and", ((),)), ("and", ("none", "none")),
    ("or",), ("or", ("none",)), ("or", [("none",)]), ("or", []), ("or", ("none",), ("none",)),
    ("or", (), ()), ("or", "none"), ("or", False), ("or", (None,)),
    (True, "a"), (None, "a"), (("is",), "a"), (["is"], "a"), (0,), (None,), (("none",),), [("none",)],
    None, True, False, 0, 1, -1, "", "a", "is", "is a", [], errors.InvalidFilter("a"),
]


def nested_filters():
    """Filters of all words, with others in them."""
    few = [("is", "a"), ("not", ("is", "b")), ("none",), ("say", True), ("say", False), ("among", ()),
           ("begins", "b"), ("below", "ab")]
    told = [("and", ()), ("or", ())]
    for one in few:
        told += [("not", one), ("and", (one,)), ("or", (one,)), ("not", ("not", one))]
        for other in few:
            told += [("and", (one, other)), ("or", (one, other)), ("not", ("and", (one, other))),
                     ("and", (("not", one), ("or", (other, ("above", "b")))))]
    return told


def chance_filters(many, levels):
    """Filters by a fixed sequence of throws."""
    throws = random.Random(11)

    def made(level):
        word = throws.choice(("leaf", "not", "and", "or"))
        if level == 0 or word == "leaf":
            return throws.choice(LEAF_FILTERS)
        if word == "not":
            return ("not", made(level - 1))
        return (word, tuple(made(level - 1) for _ in range(throws.randrange(4))))

    return [made(levels) for _ in range(many)]


FILTERS = LEAF_FILTERS + nested_filters() + chance_filters(300, 4)
SOME_FILTERS = LEAF_FILTERS[::3] + nested_filters()[::9] + chance_filters(40, 3)


def wrapped(query):
    """What has a filter, or what is nearly one, somewhere in it."""
    right = ("is", "a")
    return [("not", query), ("and", (query,)), ("or", (query,)), ("and", (right, query)),
            ("or", (right, query, right)), ("not", ("not", query)),
            ("and", (right, ("or", (("not", query), right)))),
            deep(query, 10, lambda inner: ("or", (right, ("not", inner))))]


NO_FILTERS = NO_LEAF_FILTERS + [inside for wrong in NO_LEAF_FILTERS for inside in wrapped(wrong)]

CHECKS = {
    "is": lambda wanted, text: text == wanted,
    "below": lambda wanted, text: sorted([text, wanted])[0] == text and text != wanted,
    "above": lambda wanted, text: sorted([text, wanted])[1] == text and text != wanted,
    "begins": lambda wanted, text: text[:len(wanted)] == wanted,
    "among": lambda wanted, text: text in list(wanted),
}


def degree(query, value):
    """What a value answers as a number, 0 no, 1 open, 2 yes: "and" takes the least of them."""
    word = query[0]
    if word == "none":
        return 2 if value is None else 0
    if word == "say":
        return 2 if query[1] else 0
    if word == "not":
        return 2 - degree(query[1], value)
    if word == "and":
        return min([degree(part, value) for part in query[1]], default=2)
    if word == "or":
        return max([degree(part, value) for part in query[1]], default=0)
    if value is None:
        return 1
    return 2 if CHECKS[word](query[1], value) else 0


def told_answer(query, value):
    return ("no", "open", "yes")[degree(query, value)]


def in_ranges(ranges, text):
    """Whether one of some ranges has a text."""
    for first, end in ranges:
        if text >= first and not (end is not None and text >= end):
            return True
    return False


def texts_had(ranges):
    """Those of the texts of the tests that some ranges have."""
    return [text for text in TEXTS if in_ranges(ranges, text)]


def all_ranges(texts):
    """All ranges with a first text and an end of these."""
    ends = list(texts) + [None]
    return [(first, end) for first in texts for end in ends if end is None or first < end]

