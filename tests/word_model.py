"""A second reading of [17] for the tests: which word can stand next is kept as a pile of what is awaited."""

import random
import re

TEXT = re.compile("-|[abc]{1,40}")
NUMBER = re.compile("0|[1-9][0-9]{0,2}")
VOCABULARY = ["is", "below", "above", "begins", "among", "none", "say", "yes", "no", "not", "and", "or", "-", "a", "abc",
              "cab", "c" * 40, "c" * 41, "d", "A", "ad", "0", "1", "2", "3", "00", "01", "02", "10", "12", "999", "1000",
              "1999", "-1", "+1", "1.0", "", "", "\n", "a\n", "\na", "lost", "many", "some", "hidden", "cut", "beyond",
              "6", "7", "|", "None", "True", "true", "Is", "IS", "is,", "--", "a-", "?", "ab_"]


def awaited(what, level, word):
    """What a word that can stand there makes the next ones be, in a list; None if it cannot stand."""
    if what == "text" or (what == "value" and word != "none"):
        return [] if TEXT.fullmatch(word) else None
    if what in ("texts", "filters"):
        return [(what[:-1], level)] * int(word) if NUMBER.fullmatch(word) else None
    if what == "filter" and level > 20:
        return None
    return {
        "filter": {"is": [("text", 0)], "below": [("text", 0)], "above": [("text", 0)], "begins": [("text", 0)],
                   "among": [("texts", 0)], "none": [], "say": [("truth", 0)], "not": [("filter", level + 1)],
                   "and": [("filters", level + 1)], "or": [("filters", level + 1)]},
        "truth": {"yes": [], "no": []},
        "value": {"none": []},
        "rule": {"many": [("low", 0), ("high", 0)], "some": [("low", 0), ("high", 0)],
                 "hidden": [("low", 0), ("high", 0)]},
        "low": {"lost": [], **{digit: [] for digit in "0123456"}},
        "high": {"lost": [], "cut": [("digit", 0)], "beyond": [("digit", 0)]},
        "digit": {digit: [] for digit in "0123456"},
    }[what].get(word)


def told_place(what, string):
    """The place at which words cannot be read as a filter, a value or a rule; None if they can."""
    words = string.split(" ")
    pile = [(what, 1)]
    for at, word in enumerate(words):
        more = awaited(*pile.pop(), word) if pile else None
        if more is None:
            return at
        pile.extend(more[::-1])
    return len(words) if pile else None


def told_text(text):
    return text or "-"


def told_filter(query):
    """The words of a filter."""
    word, *rest = query
    if word == "none":
        return "none"
    if word == "say":
        return {True: "say yes", False: "say no"}[rest[0]]
    if word == "not":
        return "not " + told_filter(rest[0])
    if word == "among":
        return " ".join(["among", str(len(rest[0]))] + [told_text(text) for text in rest[0]])
    if word in ("and", "or"):
        return " ".join([word, str(len(rest[0]))] + [told_filter(part) for part in rest[0]])
    return word + " " + told_text(rest[0])


def told_rule(rule):
    lacks, low, high = rule
    return " ".join([lacks, str(low)] + ([high] if high == "lost" else [high[0], str(high[1])]))


def changed(strings, many, seed):
    """The words of strings, with some taken out, put in, doubled, exchanged or cut off."""
    throws = random.Random(seed)
    told = []
    for _ in range(many):
        words = throws.choice(strings).split(" ")
        for _ in range(throws.choice((1, 1, 1, 2, 3))):
            at = throws.randrange(len(words) + 1)
            way = throws.randrange(6)
            if way == 0:
                words = words[:at] + [throws.choice(VOCABULARY)] + words[at:]
            elif way == 1:
                words = words[:at] + words[at + 1:]
            elif way == 2:
                words = words[:at] + [throws.choice(VOCABULARY)] + words[at + 1:]
            elif way == 3:
                words = words[:at]
            elif way == 4:
                words = words[:at] + words[at - 1:]
            else:
                words = words + throws.choice(strings).split(" ")[:throws.randrange(1, 4)]
        told.append(" ".join(words))
    return told


def chance_words(many, seed):
    """Words by a fixed sequence of throws; those that can stand next are frequent."""
    throws = random.Random(seed)
    return [" ".join(throws.choice(VOCABULARY[:30]) for _ in range(throws.randrange(1, 6))) for _ in range(many)]
