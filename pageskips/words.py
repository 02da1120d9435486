"""Words: filters, values and rules written as words with single spaces between, and read back."""

from pageskips.errors import InvalidWords
from pageskips.filters import check_filter, check_value
from pageskips.notes import check_rule
from pageskips.spans import is_text

TEXT_WORDS = ("is", "below", "above", "begins")
ANSWERS = {"yes": True, "no": False}
RULE_NUMBERS = ("0", "1", "2", "3", "4", "5", "6")
MOST_LETTERS = 40
MOST_DIGITS = 3
MOST_LEVELS = 20


def write_filter(query):
    """A filter as words."""
    check_filter(query)
    return " ".join(filter_words(query))


def filter_words(query):
    """The list of the words of a filter."""
    word = query[0]
    if word == "none":
        return [word]
    if word == "say":
        return [word, "yes" if query[1] else "no"]
    if word == "not":
        return [word, *filter_words(query[1])]
    if word == "among":
        return [word, str(len(query[1]))] + [text_word(text) for text in query[1]]
    if word in TEXT_WORDS:
        return [word, text_word(query[1])]
    return [word, str(len(query[1]))] + [inner for part in query[1] for inner in filter_words(part)]


def text_word(text):
    return text if text else "-"


def write_value(value):
    """A value as a word."""
    check_value(value)
    return "none" if value is None else text_word(value)


def write_rule(rule):
    """A rule as words."""
    check_rule(rule)
    lacks, low, high = rule
    high_words = high if high == "lost" else f"{high[0]} {high[1]}"
    return f"{lacks} {low} {high_words}"


def read_filter(words):
    """The filter that is written so."""
    parts = words.split(" ")
    query, end = filter_at(parts, 0, 1)
    check_end(parts, end)
    return query


def read_value(words):
    """The value that is written so."""
    parts = words.split(" ")
    if not is_value_word(parts[0]):
        raise InvalidWords(0)
    check_end(parts, 1)
    return word_value(parts[0])


def read_rule(words):
    """The rule that is written so."""
    parts = words.split(" ")
    lacks = chosen_at(parts, 0, ("many", "some", "hidden"))
    low = chosen_at(parts, 1, ("lost", *RULE_NUMBERS))
    high, end = high_at(parts, 2)
    check_end(parts, end)
    return (lacks, low if low == "lost" else int(low), high)


# Those below that are called .._at read from the word of this number on. What is of several words
# they tell together with the number of the word behind it.

def word_at(parts, at):
    """The word itself."""
    if at >= len(parts):
        raise InvalidWords(len(parts))
    return parts[at]


def check_end(parts, end):
    """Raises an error if there is a word of this number."""
    if end < len(parts):
        raise InvalidWords(end)


def chosen_at(parts, at, words):
    """The word, one of some words."""
    word = word_at(parts, at)
    if word not in words:
        raise InvalidWords(at)
    return word


def high_at(parts, at):
    """What a rule has for the high bound."""
    way = chosen_at(parts, at, ("lost", "cut", "beyond"))
    if way == "lost":
        return (way, at + 1)
    return ((way, int(chosen_at(parts, at + 1, RULE_NUMBERS))), at + 2)


def filter_at(parts, at, level):
    """A filter that stands at a level, the whole one at the first."""
    word = word_at(parts, at)
    if level > MOST_LEVELS:
        raise InvalidWords(at)
    if word == "none":
        return ((word,), at + 1)
    if word == "say":
        return ((word, ANSWERS[chosen_at(parts, at + 1, ("yes", "no"))]), at + 2)
    if word == "not":
        inner, end = filter_at(parts, at + 1, level + 1)
        return ((word, inner), end)
    if word in TEXT_WORDS:
        return ((word, text_at(parts, at + 1)), at + 2)
    if word == "among":
        many = number_at(parts, at + 1)
        return ((word, tuple([text_at(parts, at + 2 + k) for k in range(many)])), at + 2 + many)
    if word in ("and", "or"):
        inner, end = filters_at(parts, at + 1, level + 1)
        return ((word, inner), end)
    raise InvalidWords(at)


def filters_at(parts, at, level):
    """The tuple of as many filters as the first word says."""
    queries = []
    end = at + 1
    for _ in range(number_at(parts, at)):
        query, end = filter_at(parts, end, level)
        queries.append(query)
    return (tuple(queries), end)


def text_at(parts, at):
    """The text."""
    word = word_at(parts, at)
    if not is_text_word(word):
        raise InvalidWords(at)
    return word_value(word)


def number_at(parts, at):
    """The number of the filters or texts that stand behind it."""
    word = word_at(parts, at)
    if not is_number_word(word, MOST_DIGITS):
        raise InvalidWords(at)
    return int(word)


def is_number_word(word, most):
    """Whether a word is an integer from 0 on, of at most so many digits."""
    if word == "" or word.strip("0123456789") != "" or len(word) > most:
        return False
    return word == "0" or word[0] != "0"


def is_text_word(word):
    return word == "-" or (word != "" and is_text(word) and len(word) <= MOST_LETTERS)


def is_value_word(word):
    return word == "none" or is_text_word(word)


def word_value(word):
    """The value of what is known to be the word of a value."""
    if word == "none":
        return None
    return "" if word == "-" else word
