"""A second reading of [18] for the tests: what commands tell of a column of the model."""

import random
import re

from pageskips import errors
from pageskips.words import read_filter
from tests import samples
from tests.column_model import FILTERS, VALUES, told_way
from tests.note_model import told_note
from tests.word_model import VOCABULARY, told_filter, told_place, told_text

VALUE = "(none|-|[abc]{1,40})"
PAGE = "(0|[1-9][0-9]{0,8})"
FORMS = ["(add) " + VALUE, "(undo)", "(close)", "(find) (.*)", "(count) (.*)", "(read)", "(note) " + PAGE,
         "(bars) " + PAGE + " (.*)", "(same) (.*?) [|] (.*)"]
FILTER_WORDS = [told_filter(query) for query in FILTERS]


class Refused(Exception):
    """What a command raises: its error, and the place in the words of a filter or None."""

    def __init__(self, error, place=None):
        Exception.__init__(self, error, place)
        self.error, self.place = error, place


def parted(command):
    """The list of the values behind words `try`, and the parts of the command; None if it is none."""
    tried = []
    while match := re.fullmatch("try " + VALUE + " (.*)", command, re.DOTALL):
        tried.append(match[1])
        command = match[2]
    forms = [match for form in FORMS if (match := re.fullmatch(form, command, re.DOTALL))]
    if len(tried) > 8 or not forms or (forms[0][1] == "same" and "|" in forms[0][2].split(" ")):
        return None
    return tried, forms[0].groups()


def told_value(word):
    return {"none": None, "-": ""}.get(word, word)


def told_query(words):
    place = told_place("filter", words)
    if place is not None:
        raise Refused(errors.InvalidWords, place)
    return read_filter(words)


def told_command(told, command):
    """What a command returns, done to a column of the model; Refused if it raises an error."""
    parts = parted(command)
    if parts is None:
        raise Refused(errors.InvalidCommand)
    for word in parts[0]:
        told.begin()
        if word != "-":
            told.add(told_value(word))
    try:
        return told_call(told, *parts[1])
    finally:
        for _ in parts[0]:
            told.finish()


def told_call(told, word, *rest):
    if word == "add":
        return str(told.add(told_value(rest[0])))
    if word == "undo" and not told.can_undo():
        raise Refused(errors.NothingToUndo)
    if word in ("undo", "close"):
        return str(getattr(told, word)())
    if word == "read":
        return str(told.read)
    if word == "same":
        one, other = told_query(rest[0]), told_query(rest[1])
        answers = [samples.degree(one, value) == samples.degree(other, value) for value in samples.VALUES]
        return "yes" if all(answers) else "no"
    if word in ("find", "count"):
        indexes = told.scan(told_query(rest[0]))
        return str(len(indexes)) if word == "count" else " ".join(map(str, indexes)) or "-"
    if int(rest[0]) >= len(told.closed):
        raise Refused(errors.InvalidIndex)
    page = told.closed[int(rest[0])]
    return told_note_words(told.rule, page) if word == "note" else told_way(told.rule, page, told_query(rest[1]))


def told_note_words(rule, page):
    many, lacks, low, high = told_note(rule, page)
    told = {"many": str(lacks), "some": {True: "yes", False: "no"}.get(lacks), "hidden": "?"}[rule[0]]
    return " ".join([str(many), told] + ["?" if bound is None else told_text(bound) for bound in (low, high)])


def chance_commands(many, seed):
    """Commands by a fixed sequence of throws; some of them are none, or are refused."""
    throws = random.Random(seed)
    told = []
    for _ in range(many):
        word = throws.choice(("add", "add", "add", "undo", "close", "find", "count", "read", "note", "bars", "same"))
        command = word + "".join([" " + part for part in chance_parts(word, throws)])
        while throws.randrange(3) == 0:
            command = "try " + throws.choice(("-", "none", "a", "ab", "c")) + " " + command
        told.append(command)
    return told


def chance_parts(word, throws):
    """What stands behind the word of a command."""
    value = throws.choice([told_text(value) for value in VALUES[1:]] + ["none"])
    queries = [chance_filter(throws), "|", chance_filter(throws)]
    index = str(throws.randrange(4))
    parts = {"add": [value], "find": queries[:1], "count": queries[:1], "note": [index], "bars": [index] + queries[:1],
             "same": queries}.get(word, [])
    if throws.randrange(12) == 0:
        at = throws.randrange(len(parts) + 1)
        parts = parts[:at] + [throws.choice(VOCABULARY)] + parts[at + throws.randrange(2):]
    return parts


def chance_filter(throws):
    words = throws.choice(FILTER_WORDS)
    return words if throws.randrange(12) else words + " " + throws.choice(VOCABULARY)
