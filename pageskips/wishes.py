"""Wishes: filters as objects, and the operators that make wishes of them."""

from pageskips.errors import InvalidFilter
from pageskips.filters import answer, check_filter, filter_of, is_value, passes, selection, within
from pageskips.spans import check_span, is_text


class Wish:
    """A filter that does not change."""

    def __init__(self, query):
        lacking, span = selection(query)
        self._query = query
        self._lacking = lacking
        self._span = span

    @property
    def query(self):
        """The filter."""
        return self._query

    @property
    def span(self):
        """The span of the texts that answer yes."""
        return self._span

    @property
    def lacking(self):
        """What None answers."""
        return self._lacking

    @classmethod
    def of_span(cls, span, *, lacking="open"):
        """A wish to which None answers lacking, and just the texts of a span answer yes."""
        # filter_of would look at lacking first, but the span stands ahead of it here.
        check_span(span)
        return cls(filter_of(lacking, span))

    def __call__(self, value):
        """What a value answers."""
        return answer(self._query, value)

    def __contains__(self, x):
        """Whether any value is a value that passes."""
        return is_value(x) and passes(self._query, x)

    def __len__(self):
        """How many filters the filter consists of."""
        return len(filters_in(self._query))

    def __bool__(self):
        """Whether some value passes."""
        return bool(self._lacking == "yes" or self._span)

    def __and__(self, other):
        return Wish(("and", (self._query, operand_filter(other))))

    def __rand__(self, other):
        return Wish(("and", (operand_filter(other), self._query)))

    def __or__(self, other):
        return Wish(("or", (self._query, operand_filter(other))))

    def __ror__(self, other):
        return Wish(("or", (operand_filter(other), self._query)))

    def __sub__(self, other):
        return Wish(("and", (self._query, ("not", operand_filter(other)))))

    def __rsub__(self, other):
        return Wish(("and", (operand_filter(other), ("not", self._query))))

    def __invert__(self):
        return Wish(("not", self._query))

    def __eq__(self, other):
        """Whether the other one is a wish to which each value answers the same."""
        if not isinstance(other, Wish):
            return False
        return self._lacking == other._lacking and self._span == other._span

    def __le__(self, other):
        """Whether all values that pass this wish pass the other one."""
        return within(self._query, compared_filter(other))

    def __lt__(self, other):
        """Whether they do, and some value passes the other one alone."""
        return self <= other and not other <= self


def filters_in(query):
    """The list of the filters that a filter consists of, itself among them."""
    word = query[0]
    if word == "not":
        return [query, *filters_in(query[1])]
    if word in ("and", "or"):
        return [query] + [inner for part in query[1] for inner in filters_in(part)]
    return [query]


def operand_filter(operand):
    """The filter that a wish, a text or None stands for beside &, | and -."""
    if isinstance(operand, Wish):
        return operand._query
    if operand is None:
        return ("none",)
    if is_text(operand):
        return ("is", operand)
    raise InvalidFilter("this is neither a wish nor a text nor None")


def compared_filter(operand):
    """The filter of what a wish is compared with by <= and <."""
    if not isinstance(operand, Wish):
        raise InvalidFilter("a wish is compared with wishes only")
    return operand._query


def filter_in(wish):
    """The filter of a wish, or what is a filter itself."""
    if isinstance(wish, Wish):
        return wish._query
    check_filter(wish)
    return wish
