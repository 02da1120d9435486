"""Readers: what they lose who believe another rule than the one that made the notes."""

from pageskips.filters import check_filter, passes
from pageskips.notes import bars, check_page, check_rule, is_note, note, texts_of
from pageskips.spans import EVERY_TEXT, has


def lost(maker, belief, page, query):
    """Whether a reader who believes a rule loses a page, noted by the maker, for a filter."""
    check_rule(maker)
    check_rule(belief)
    check_page(page)
    check_filter(query)
    made = note(maker, page)
    if not is_note(belief, made) or not bars(belief, made, query):
        return False
    return any([passes(query, value) for value in page])


def loses(maker, belief):
    """Whether a reader loses some page for some filter."""
    if least_loss(maker, belief) is not None:
        return True
    # What is left is that None alone is lost, in a page of two values ([8] F5).
    texts = deciding_texts(maker, belief)
    return any([lost(maker, belief, [None, text], ("none",)) for text in texts])


def least_loss(maker, belief):
    """The tuple of the least page that a reader loses for some ("is", text), and the least such
    text; None if there is no such page."""
    check_rule(maker)
    check_rule(belief)
    texts = deciding_texts(maker, belief)
    believed = {}
    for page in small_pages(texts):
        made = note(maker, page)
        if made not in believed:
            believed[made] = believed_texts(belief, made)
        missed = [value for value in page if value is not None and not has(believed[made], value)]
        if missed:
            return (page, missed[0])
    return None


def believed_texts(belief, made):
    """The span of the texts for which a reader reads a page with this note."""
    return texts_of(belief, made) if is_note(belief, made) else EVERY_TEXT


def small_pages(texts):
    """The pages among which the least lost one is, if any is lost: [8] F5 tells their forms."""
    for text in texts:
        yield [text]
    for text in texts:
        yield [None, text]
    for at, text in enumerate(texts):
        # Of two pages with the same values the ascending one is less.
        for other in texts[at:]:
            yield [text, other]


def deciding_texts(maker, belief):
    """The ascending list of the texts among which those of the least lost page are.

    A note depends on as many letters as the rule says and on whether there are more, so all
    ranges that notes give begin and end with texts of at most one letter more.
    """
    return short_texts(most_letters(maker, belief) + 1)


def most_letters(maker, belief):
    """The greatest number of letters in two rules, 0 if they have none."""
    return max([int(letters_noted(rule)) for rule in (maker, belief)])


def letters_noted(rule):
    """The greatest number of letters in a rule, 0 if it has none."""
    low = 0 if rule[1] == "lost" else rule[1]
    high = 0 if rule[2] == "lost" else rule[2][1]
    return low if low > high else high


def short_texts(length):
    """The ascending list of all texts of at most so many letters."""
    texts = [""]
    for _ in range(length):
        texts = [""] + [letter + text for letter in "abc" for text in texts]
    return texts


def tells(maker, belief):
    """Whether pages with equal notes by the maker always have equal notes by the belief."""
    return untold(maker, belief) is None


def untold(maker, belief):
    """The tuple of two pages with equal notes by the maker and unlike ones by the belief, None if
    there are none."""
    check_rule(maker)
    check_rule(belief)
    letters = most_letters(maker, belief)
    pages = {}
    # Notes by one rule have the same kinds, so none of them are unlike by their kinds alone.
    for page in parting_pages(letters):
        made = note(maker, page)
        if made not in pages:
            pages[made] = page
        elif note(belief, pages[made]) != note(belief, page):
            return (pages[made], page)
    return None


def parting_pages(letters):
    """Pages among which two are that the maker's notes do not part, if there are any at all.

    The belief's notes of two such pages differ by how many values are None, by whether there is
    a text, by the least or by the greatest text. For the latter two the other bound can be what
    it likes, so one least text of all or one greatest stands for it.
    """
    yield [None, None, ""]
    yield [None, "", ""]
    yield [None, None]
    for text in parting_texts(letters):
        yield [None, text]
        yield [text, "c" * (letters + 2)]
        yield ["", text]


def parting_texts(letters):
    """Texts among which two are that a bound of the maker does not part, if there are any at all.

    Such texts part behind the letters that the maker notes, or one ends there: letters a, an a
    or a b behind them. Or one is what the maker notes for the other, longer one, as b for acca.
    And for cca the maker may note None, as for no text at all.
    """
    texts = []
    for many in range(letters + 1):
        texts.extend(["a" * many, "a" * (many + 1), "a" * many + "b"])
        texts.extend(["a" + "c" * many + "a", "c" * many + "a"])
    return texts
