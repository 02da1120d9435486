"""Filters: what each value answers to them, and the normal form of what they let pass."""

from pageskips.errors import InvalidColumn, InvalidFilter, InvalidValue
from pageskips.spans import EVERY_TEXT, behind, beyond, check_span, is_text
from pageskips.spans import joined, least_text, opposite, shared, span_of

TURNED = {"yes": "no", "no": "yes", "open": "open"}


def is_value(value):
    """Whether any value is a text or None."""
    return value is None or is_text(value)


def is_filter(value):
    """Whether any value is a filter."""
    if type(value) is not tuple or not value or type(value[0]) is not str:
        return False
    if value[0] == "none":
        return len(value) == 1
    return len(value) == 2 and can_follow(value[0], value[1])


def can_follow(word, part):
    """Whether a filter can have this part behind its word."""
    if word in ("is", "below", "above", "begins"):
        return is_text(part)
    if word == "say":
        return type(part) is bool
    if word == "not":
        return is_filter(part)
    if word == "among":
        return type(part) is tuple and all([is_text(text) for text in part])
    if word in ("and", "or"):
        return type(part) is tuple and all([is_filter(inner) for inner in part])
    return False


def check_value(value):
    if not is_value(value):
        raise InvalidValue("a value is a text or None")


def check_filter(query):
    if not is_filter(query):
        raise InvalidFilter("this is not a filter")


def check_column(column):
    if type(column) is not list or not all([is_value(value) for value in column]):
        raise InvalidColumn("a column is a list of values")


def check_lacking(lacking):
    if type(lacking) is not str or lacking not in TURNED:
        raise InvalidValue("what None answers is yes, no or open")


def answer(query, value):
    """What a value answers to a filter: yes, no or open."""
    check_filter(query)
    check_value(value)
    return answer_to(query, value)


def answer_to(query, value):
    """As answer, for what is known to be a filter and a value."""
    word = query[0]
    if word == "none":
        return yes_or_no(value is None)
    if word == "say":
        return yes_or_no(query[1])
    if word == "not":
        return TURNED[answer_to(query[1], value)]
    if word == "and":
        return settled([answer_to(part, value) for part in query[1]], "no", "yes")
    if word == "or":
        return settled([answer_to(part, value) for part in query[1]], "yes", "no")
    if value is None:
        return "open"
    return yes_or_no(matches(word, query[1], value))


def yes_or_no(holds):
    return "yes" if holds else "no"


def settled(answers, deciding, otherwise):
    """The deciding answer if it is among the answers, then open, then the other one."""
    if deciding in answers:
        return deciding
    return "open" if "open" in answers else otherwise


def matches(word, wanted, text):
    """Whether a text is as the word of a filter and the text or texts behind it say."""
    if word == "is":
        return text == wanted
    if word == "below":
        return text < wanted
    if word == "above":
        return text > wanted
    if word == "begins":
        return text.startswith(wanted)
    return text in wanted


def selection(query):
    """What None answers to a filter, and the span of the texts that answer yes."""
    check_filter(query)
    return (answer_to(query, None), passing_texts(query))


def passing_texts(query):
    """The span of the texts that answer yes to what is known to be a filter."""
    word = query[0]
    if word == "none":
        return ()
    if word == "say":
        return EVERY_TEXT if query[1] else ()
    if word == "not":
        return opposite(passing_texts(query[1]))
    if word == "and":
        return opposite(joined_all([opposite(passing_texts(part)) for part in query[1]]))
    if word == "or":
        return joined_all([passing_texts(part) for part in query[1]])
    if word == "among":
        return span_of([(text, behind(text)) for text in query[1]])
    return matching_texts(word, query[1])


def joined_all(spans):
    """The span of the texts that one of many spans has; all at once takes the least time."""
    return span_of([part for span in spans for part in span])


def matching_texts(word, wanted):
    """The span of the texts that are as the word of a filter and the text behind it say."""
    if word == "is":
        return ((wanted, behind(wanted)),)
    if word == "above":
        return ((behind(wanted), None),)
    if word == "begins":
        return ((wanted, beyond(wanted)),)
    # No text is below the empty one, and no range is without a text.
    return (("", wanted),) if wanted else ()


def alike(one, other):
    """Whether each value answers the same to two filters."""
    return selection(one) == selection(other)


def parting(one, other):
    """The tuple of the least value that passes just one of two filters, () if there is none."""
    check_filter(one)
    check_filter(other)
    if passes(one, None) != passes(other, None):
        return (None,)
    texts = passing_texts(one)
    other_texts = passing_texts(other)
    just_one = joined(shared(texts, opposite(other_texts)), shared(opposite(texts), other_texts))
    return (least_text(just_one),) if just_one else ()


def within(one, other):
    """Whether all values that pass the one filter pass the other."""
    check_filter(one)
    check_filter(other)
    if passes(one, None) and not passes(other, None):
        return False
    return shared(passing_texts(one), opposite(passing_texts(other))) == ()


def passes(query, value):
    """Whether a value passes, for what is known to be a filter and a value."""
    return answer_to(query, value) == "yes"


def picked(query, column):
    """The list of the indexes of the values of a column that pass a filter."""
    check_filter(query)
    check_column(column)
    return [index for index, value in enumerate(column) if passes(query, value)]


def filter_of(lacking, span):
    """A filter to which None answers lacking, and just the texts of a span answer yes."""
    check_lacking(lacking)
    check_span(span)
    parts = tuple([range_filter(first, end) for first, end in span])
    if lacking == "yes":
        return ("or", (("none",), *parts))
    if lacking == "no":
        return ("and", (("not", ("none",)), ("or", parts)))
    # To "or" without filters None would answer no; to "among" without texts it answers open.
    return ("or", (("among", ()), *parts))


def range_filter(first, end):
    """A filter to which None answers open, and just the texts of a range answer yes."""
    from_first_on = ("not", ("below", first))
    if end is None:
        return from_first_on
    if end == behind(first):
        return ("is", first)
    return ("and", (from_first_on, ("below", end)))
