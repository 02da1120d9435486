"""Codes: in how many signs pages, notes and whole columns can be kept."""

from pageskips.errors import InvalidCode
from pageskips.filters import check_column
from pageskips.notes import check_page, check_rule, note
from pageskips.spans import check_most


def digits(number):
    """How many digits an integer from 0 on has."""
    return len(str(number))


def value_signs(value):
    return 1 if value is None else len(value) + 1


def plain_signs(page):
    return sum([value_signs(value) for value in page])


def runs_signs(page):
    return sum([value_signs(value) + digits(many) for value, many in stretches(page)])


def stretches(page):
    """The list of (value, how many) for each longest stretch of equal values in a page."""
    found = []
    for value in page:
        if found and found[-1][0] == value:
            found[-1] = (value, found[-1][1] + 1)
        else:
            found.append((value, 1))
    return found


def table_signs(page):
    indexes = {}
    for value in page:
        if value not in indexes:
            indexes[value] = len(indexes)
    return plain_signs(list(indexes)) + sum([digits(indexes[value]) for value in page])


def shared_signs(page):
    ahead_of_each = [None, *page]
    return sum([signs_behind(ahead, value) for ahead, value in zip(ahead_of_each, page)])


def signs_behind(ahead, value):
    """The signs of a value by "shared", with the value that stands just ahead of it."""
    if value is None:
        return 1
    many = 0 if ahead is None else letters_shared(ahead, value)
    return digits(many) + value_signs(value[many:])


def letters_shared(one, other):
    """How many letters two texts have in common at their beginning."""
    many = 0
    while many < len(one) and many < len(other) and one[many] == other[many]:
        many += 1
    return many


# In the sequence in which the first of equally cheap codes is the best one.
COUNTS = {"plain": plain_signs, "runs": runs_signs, "table": table_signs, "shared": shared_signs}


def is_code(value):
    """Whether any value is a code."""
    return type(value) is str and value in COUNTS


def check_code(code):
    if not is_code(code):
        raise InvalidCode("a code is plain, runs, table or shared")


def signs(code, page):
    """How many signs a page takes by a code."""
    check_code(code)
    check_page(page)
    count = COUNTS[code]
    return count(page)


def note_signs(rule, page):
    """How many signs the note of a page by a rule takes."""
    many, lacks, low, high = note(rule, page)
    return digits(many) + lacks_signs(lacks) + value_signs(low) + value_signs(high)


def lacks_signs(lacks):
    if lacks is None:
        return 0
    return 1 if type(lacks) is bool else digits(lacks)


def best_code(page):
    """The tuple (signs, code) of the fewest signs that a page takes, and the first such code."""
    check_page(page)
    best = None
    for code in COUNTS:
        count = COUNTS[code]
        taken = count(page)
        if best is None or taken < best[0]:
            best = (taken, code)
    return best


def cheapest(rule, column, most):
    """The tuple (signs, lengths) of the fewest signs that a column takes, cut into pages of at
    most so many values with their notes, and of the least list of lengths of such pages."""
    check_rule(rule)
    check_column(column)
    check_most(most)
    # plans[k] is the answer for the values behind the first k + 1 of those that are still ahead.
    plans = [(0, [])]
    for start in reversed(range(len(column))):
        plans = [cheapest_from(rule, column[start:start + most], plans), *plans]
    return plans[0]


def cheapest_from(rule, values, plans):
    """The cheapest tuple for a column, from the values that its first page can have and the
    cheapest tuples for what is left behind one of them, behind two and so on."""
    best = None
    for length, (rest_signs, rest_lengths) in enumerate(plans[:len(values)], start=1):
        page = values[:length]
        taken = best_code(page)[0] + note_signs(rule, page) + rest_signs
        # An equally cheap plan with a longer first page has the greater list of lengths.
        if best is None or taken < best[0]:
            best = (taken, [length, *rest_lengths])
    return best
