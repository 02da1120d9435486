"""Texts, ranges and spans: each set of texts that ranges make, in its one normal form."""

from pageskips.errors import InvalidNumber, InvalidSpan, InvalidText

EVERY_TEXT = (("", None),)
NEXT_LETTERS = {"a": "b", "b": "c"}


def is_text(value):
    """Whether any value is a text."""
    return type(value) is str and value.strip("abc") == ""


def is_range(value):
    """Whether any value is a range."""
    if type(value) is not tuple or len(value) != 2 or not is_text(value[0]):
        return False
    return value[1] is None or (is_text(value[1]) and value[0] < value[1])


def is_span(value):
    """Whether any value is a span."""
    if type(value) is not tuple or not all([is_range(part) for part in value]):
        return False
    return all([not reaches(ahead[1], part[0]) for ahead, part in zip(value, value[1:])])


def reaches(end, first):
    """Whether a range with this end has the text first or ends just there."""
    return end is None or end >= first


def check_text(text):
    if not is_text(text):
        raise InvalidText("a text is a string of the letters a, b and c")


def check_span(span):
    if not is_span(span):
        raise InvalidSpan("a span is a tuple of ascending ranges with gaps between")


def check_ranges(ranges):
    if type(ranges) is not list or not all([is_range(part) for part in ranges]):
        raise InvalidSpan("the ranges are a list of tuples (first, end)")


def check_most(most):
    if type(most) is not int or most < 1 or most > 1000:
        raise InvalidNumber("the most is an integer from 1 to 1000")


def behind(text):
    """The text next to a text."""
    check_text(text)
    return text + "a"


def beyond(text):
    """The least text greater than all texts that begin with a text, None if there is none."""
    check_text(text)
    stem = text.rstrip("c")
    return stem[:-1] + NEXT_LETTERS[stem[-1]] if stem else None


def later_end(end, other_end):
    """The greater one of the ends of two ranges."""
    if end is None or other_end is None:
        return None
    return end if end > other_end else other_end


def ascending(texts):
    """The list of some texts, the least one first."""
    # str(..) makes it plain that strings are sorted: L5 of LANGUAGE.md asks for it
    # as soon as a class of the package has an order.
    return sorted([str(text) for text in texts])


def span_of(ranges):
    """The span of the texts that some ranges have together."""
    check_ranges(ranges)
    ends = {}
    for first, end in ranges:
        ends[first] = later_end(end, ends[first]) if first in ends else end
    parts = []
    for first in ascending(list(ends)):
        if parts and reaches(parts[-1][1], first):
            parts[-1] = (parts[-1][0], later_end(parts[-1][1], ends[first]))
        else:
            parts.append((first, ends[first]))
    return tuple(parts)


def has(span, text):
    """Whether a span has a text."""
    check_span(span)
    check_text(text)
    return any([first <= text and (end is None or text < end) for first, end in span])


def opposite(span):
    """The span of all texts that a span does not have."""
    check_span(span)
    gaps = []
    start = ""
    for first, end in span:
        if start < first:
            gaps.append((start, first))
        start = end
    # Only the last range can be without an end, and nothing is left behind it.
    if start is not None:
        gaps.append((start, None))
    return tuple(gaps)


def joined(span, other_span):
    """The span of the texts that one of two spans has, or both."""
    check_span(span)
    check_span(other_span)
    return span_of([*span, *other_span])


def shared(span, other_span):
    """The span of the texts that both of two spans have."""
    return opposite(joined(opposite(span), opposite(other_span)))


def least_text(span):
    """The least text of a span, None if it has none."""
    check_span(span)
    return span[0][0] if span else None


def texts_in(span, most):
    """The ascending list of the first texts of a span, at most so many."""
    check_span(span)
    check_most(most)
    texts = []
    for first, end in span:
        text = first
        while len(texts) < most and (end is None or text < end):
            texts.append(text)
            text = behind(text)
    return texts


def is_finite(span):
    """Whether a span has finitely many texts."""
    check_span(span)
    return all([ends_soon(first, end) for first, end in span])


def ends_soon(first, end):
    """Whether a range has finitely many texts, its first one and that with letters a behind."""
    return end is not None and end.startswith(first) and end[len(first):].strip("a") == ""
