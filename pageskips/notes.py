"""Rules and notes: what the note of a page tells of the values in it."""

from pageskips.errors import InvalidNote, InvalidPage, InvalidRule
from pageskips.filters import check_filter, is_value, passes, passing_texts
from pageskips.spans import ascending, behind, beyond, has, is_text, least_text, opposite, shared, span_of

LETTERS_BEFORE = {"b": "a", "c": "b"}


def is_rule(value):
    """Whether any value is a rule."""
    if type(value) is not tuple or len(value) != 3:
        return False
    lacks, low, high = value
    return is_lacks_part(lacks) and is_low_part(low) and is_high_part(high)


def is_lacks_part(part):
    return type(part) is str and part in ("many", "some", "hidden")


def is_low_part(part):
    return is_lost(part) or is_letter_number(part)


def is_high_part(part):
    """Whether a rule can have this part for its high bound."""
    if type(part) is not tuple or len(part) != 2:
        return is_lost(part)
    return type(part[0]) is str and part[0] in ("cut", "beyond") and is_letter_number(part[1])


def is_lost(part):
    return type(part) is str and part == "lost"


def is_letter_number(part):
    return type(part) is int and 0 <= part <= 6


def is_page(value):
    """Whether any value is a page."""
    return type(value) is list and len(value) > 0 and all([is_value(inner) for inner in value])


def is_note(rule, value):
    """Whether any value is the note of some page by a rule."""
    check_rule(rule)
    if type(value) is not tuple or len(value) != 4 or not are_counts(rule[0], value[0], value[1]):
        return False
    return possible_numbers(rule, value) != []


def are_counts(word, many, lacks):
    """Whether a note can begin with these, by a rule with this word of lacks."""
    if type(many) is not int or many < 1:
        return False
    if word == "many":
        return type(lacks) is int and 0 <= lacks <= many
    return type(lacks) is bool if word == "some" else lacks is None


def check_rule(rule):
    if not is_rule(rule):
        raise InvalidRule("a rule is a tuple (lacks, low, high)")


def check_page(page):
    if not is_page(page):
        raise InvalidPage("a page is a list of values, not an empty one")


def check_note(rule, note):
    """Raises an error unless this is a note of the rule; for what is no rule, the error of a rule."""
    if not is_note(rule, note):
        raise InvalidNote("this is the note of no page by the rule")


def note(rule, page):
    """The note of a page by a rule."""
    check_rule(rule)
    check_page(page)
    lacks, low, high = rule
    texts = ascending([value for value in page if value is not None])
    lacking = lacks_note(lacks, len(page) - len(texts))
    return (len(page), lacking, low_note(low, texts), high_note(high, texts))


def lacks_note(lacks, lacking):
    if lacks == "many":
        return lacking
    return lacking > 0 if lacks == "some" else None


def low_note(low, texts):
    """What a rule notes as the low bound of these ascending texts."""
    if low == "lost" or not texts:
        return None
    return texts[0][:low]


def high_note(high, texts):
    """What a rule notes as the high bound of these ascending texts."""
    if high == "lost" or not texts:
        return None
    way, letters = high
    start = texts[-1][:letters]
    return beyond(start) if way == "beyond" and len(texts[-1]) > letters else start


def least_texts(low, noted):
    """The range of the texts for which, as least ones, a rule notes this; None if there are none."""
    if low == "lost":
        return ("", None) if noted is None else None
    return texts_cut_to(noted, low)


def greatest_texts(high, noted):
    """The range of the texts for which, as greatest ones, a rule notes this; None if there are none."""
    if high == "lost":
        return ("", None) if noted is None else None
    way, letters = high
    return texts_cut_to(noted, letters) if way == "cut" else texts_led_beyond(noted, letters)


def texts_cut_to(noted, letters):
    """The range of the texts of which so many letters at the beginning are what is noted."""
    if not is_text(noted) or len(noted) > letters:
        return None
    end = beyond(noted) if len(noted) == letters else behind(noted)
    return (noted, end)


def texts_led_beyond(noted, letters):
    """The range of the texts for which ("beyond", letters) notes this."""
    if noted is None:
        return ("c" * letters + "a", None)
    if not is_text(noted) or len(noted) > letters:
        return None
    if noted[-1:] not in LETTERS_BEFORE:
        return (noted, behind(noted))
    # Longer texts lead here just if their first letters are these: what is noted is beyond them.
    start = (noted[:-1] + LETTERS_BEFORE[noted[-1]]).ljust(letters, "c")
    return (start + "a", behind(noted))


def numbers_left(many, lacks):
    """The least and the greatest number of texts that the counts of a note leave."""
    if lacks is None:
        return (0, many)
    if lacks is True:
        return (0, many - 1)
    return (many, many) if lacks is False else (many - lacks, many - lacks)


def possible_numbers(rule, note):
    """How many texts the pages with this note can have: the least number, then 1 and 2 if they can
    have them, then the greatest, some perhaps twice. Those between are as the greatest one."""
    fewest, most = numbers_left(note[0], note[1])
    numbers = [number for number in (fewest, 1, 2, most) if fewest <= number <= most]
    return [number for number in numbers if can_have(rule, note, number)]


def can_have(rule, note, number):
    """Whether some page with this note has so many texts, if its counts leave so many."""
    if number == 0:
        return note[2] is None and note[3] is None
    return ranges_with(rule, note, number) != []


def ranges_with(rule, note, number):
    """The list of ranges of the texts that stand in a page with this note and so many texts."""
    least = least_texts(rule[1], note[2])
    greatest = greatest_texts(rule[2], note[3])
    if number == 0 or least is None or greatest is None:
        return []
    if number == 1:
        return in_both(least, greatest)
    from_least = (least[0], None)
    to_greatest = ("", greatest[1])
    if number == 2:
        return in_both(least, to_greatest) + in_both(from_least, greatest)
    return in_both(from_least, to_greatest)


def in_both(one, other):
    """The list of the range of the texts that two ranges have in common, [] if there are none."""
    first = one[0] if one[0] > other[0] else other[0]
    ends = ascending([end for end in (one[1], other[1]) if end is not None])
    if not ends:
        return [(first, None)]
    return [(first, ends[0])] if first < ends[0] else []


def possible_texts(rule, note):
    """As texts_of, for what is known to be a note of the rule."""
    numbers = possible_numbers(rule, note)
    return span_of([part for number in numbers for part in ranges_with(rule, note, number)])


def can_lack(rule, note):
    """Whether None stands in some page with this note."""
    return possible_numbers(rule, note)[0] < note[0]


def texts_of(rule, note):
    """The span of all texts that stand in some page with this note."""
    check_note(rule, note)
    return possible_texts(rule, note)


def lacking_of(rule, note):
    """The least and the greatest number of values that are None in the pages with this note."""
    check_note(rule, note)
    numbers = possible_numbers(rule, note)
    return (note[0] - numbers[-1], note[0] - numbers[0])


def bars(rule, note, query):
    """Whether no value of any page with this note passes a filter."""
    check_note(rule, note)
    check_filter(query)
    if passes(query, None) and can_lack(rule, note):
        return False
    return shared(possible_texts(rule, note), passing_texts(query)) == ()


def grants(rule, note, query):
    """Whether all values of all pages with this note pass a filter."""
    check_note(rule, note)
    check_filter(query)
    if not passes(query, None) and can_lack(rule, note):
        return False
    return shared(possible_texts(rule, note), opposite(passing_texts(query))) == ()


def page_for(rule, note, query):
    """A page with this note of which some value passes a filter, None if the note bars it."""
    check_note(rule, note)
    check_filter(query)
    for number in possible_numbers(rule, note):
        texts = span_of(ranges_with(rule, note, number))
        if passes(query, None) and number < note[0]:
            return page_around(rule, note, number, least_text(texts))
        wanted = shared(texts, passing_texts(query))
        if wanted:
            return page_around(rule, note, number, least_text(wanted))
    return None


def page_around(rule, note, number, text):
    """A page with this note and so many texts, among them a given one that can stand in it."""
    lacking = [None] * (note[0] - number)
    if number == 0:
        return lacking
    if number == 1:
        return lacking + [text]
    least = least_texts(rule[1], note[2])
    last = greatest_texts(rule[2], note[3])[0]
    if number == 2 and not has((least,), text):
        return lacking + [least[0], text]
    return lacking + [least[0]] * (number - 2) + [text, text if text > last else last]
