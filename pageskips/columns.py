"""Columns: values in pages with notes, and scans that skip pages."""

from pageskips.errors import Full, InvalidIndex, InvalidNumber, InvalidValue, NoBlock, NothingToUndo
from pageskips.filters import check_value, passes
from pageskips.notes import bars, check_rule, grants, note
from pageskips.spans import check_most
from pageskips.wishes import filter_in


def check_index(index, many):
    if type(index) is not int or index < 0 or index >= many:
        raise InvalidIndex("an index is an integer from 0 on, less than the number of what is there")


def check_values(values):
    for value in values:
        check_value(value)


def check_counted(counted):
    if type(counted) is not bool:
        raise InvalidValue("a scan is counted, True, or is not, False")


def check_cap(cap):
    if type(cap) is not int or cap < 0 or cap > 1000:
        raise InvalidNumber("a cap is an integer from 0 to 1000")


def comes_ahead(one, other):
    """Whether a value is less than another one."""
    if other is None:
        return False
    return one is None or one < other


class Column:
    """Values in pages: each full one is closed and has a note; the last one may still be open."""

    def __init__(self, rule, most):
        check_rule(rule)
        check_most(most)
        self._rule = rule
        self._most = most
        self._contents = []
        self._notes = []
        # Where each closed page begins, and behind these where the open page does or would.
        self._starts = [0]
        # For each deed, how many values and closed pages there were ahead of it.
        self._deeds = []
        # For each block, how many deeds there were ahead of it.
        self._blocks = []
        self._read = 0

    @property
    def rule(self):
        """The rule of the notes."""
        return self._rule

    @property
    def most(self):
        """How many values a full page has."""
        return self._most

    @property
    def contents(self):
        """The list of the values."""
        return list(self._contents)

    @property
    def notes(self):
        """The list of the notes of the closed pages."""
        return list(self._notes)

    @property
    def read(self):
        """How many pages the scans have read in all."""
        return self._read

    def __len__(self):
        return len(self._contents)

    def __getitem__(self, at):
        check_index(at, len(self._contents))
        return self._contents[at]

    def __iter__(self):
        raise TypeError("a column is not iterated over")

    def add(self, *values):
        """Adds values at the end; how many closed pages there are then."""
        check_values(values)
        return self._added(values)

    def undo(self):
        """Takes back the last add or close of the innermost block, or of all if there is none; how
        many values it had."""
        if len(self._deeds) == (self._blocks[-1] if self._blocks else 0):
            raise NothingToUndo("there is no add and no close that can be taken back here")
        many = len(self._contents)
        self._put_back(len(self._deeds) - 1)
        return many - len(self._contents)

    def close(self):
        """Closes the open page, if it has a value; how many closed pages there are then."""
        self._remember()
        if len(self._contents) > self._starts[-1]:
            self._close_page()
        return len(self._notes)

    def scan(self, wish, *, counted=True):
        """Iterates over the indexes of the values that pass a wish or a filter."""
        query = filter_in(wish)
        check_counted(counted)
        for page in range(len(self._starts)):
            way = self._way(page, query)
            if way == "read" and counted:
                self._read += 1
            for index in self._told(page, way, query):
                yield index

    def count(self, wish):
        """How many values pass a wish or a filter."""
        indexes = list(self.scan(wish))
        return len(indexes)

    def begin(self):
        """Begins a block."""
        self._blocks.append(len(self._deeds))

    def finish(self):
        """Ends the innermost block and takes back all that was done inside."""
        if not self._blocks:
            raise NoBlock("no block has begun")
        self._put_back(self._blocks.pop())

    def twin(self):
        """An independent copy outside of all blocks, which can take back all deeds."""
        return self._copied_to(Column(self._rule, self._most))

    def _added(self, values):
        """As add, for values that can be added."""
        self._remember()
        for value in values:
            self._contents.append(value)
            if len(self._contents) - self._starts[-1] == self._most:
                self._close_page()
        return len(self._notes)

    def _close_page(self):
        page = self._contents[self._starts[-1]:]
        self._notes.append(note(self._rule, page))
        self._starts.append(len(self._contents))

    def _remember(self):
        """Begins a deed: what is there now is what is left when it is taken back."""
        self._deeds.append((len(self._contents), len(self._notes)))

    def _put_back(self, many):
        """Takes back all but the first deeds, so many."""
        if many == len(self._deeds):
            return
        values, pages = self._deeds[many]
        self._contents = self._contents[:values]
        self._notes = self._notes[:pages]
        self._starts = self._starts[:pages + 1]
        self._deeds = self._deeds[:many]

    def _way(self, page, query):
        """What a scan does with a page: "skip", "tell" or "read". The open page is behind the closed
        ones, perhaps without a value."""
        if page == len(self._notes):
            return "read" if len(self._contents) > self._starts[page] else "skip"
        noted = self._notes[page]
        if bars(self._rule, noted, query):
            return "skip"
        return "tell" if grants(self._rule, noted, query) else "read"

    def _told(self, page, way, query):
        """The list of the indexes that a scan tells of a page."""
        if way == "skip":
            return []
        start = self._starts[page]
        end = len(self._contents) if page == len(self._notes) else self._starts[page + 1]
        if way == "tell":
            return list(range(start, end))
        return [index for index in range(start, end) if passes(query, self._contents[index])]

    def _copied_to(self, column):
        """A new column of the same kind, given all that this one has but its blocks."""
        column._contents = list(self._contents)
        column._notes = list(self._notes)
        column._starts = list(self._starts)
        column._deeds = list(self._deeds)
        column._read = self._read
        return column


class CappedColumn(Column):
    """A column that never has more values than its cap."""

    def __init__(self, rule, most, *, cap):
        Column.__init__(self, rule, most)
        check_cap(cap)
        self._cap = cap

    @property
    def cap(self):
        """How many values there can be."""
        return self._cap

    def add(self, *values):
        """Adds values at the end, if there is room; how many closed pages there are then."""
        check_values(values)
        self._check_room(values)
        return self._added(values)

    def twin(self):
        """An independent copy outside of all blocks, which can take back all deeds."""
        return self._copied_to(CappedColumn(self._rule, self._most, cap=self._cap))

    def _check_room(self, values):
        if len(self._contents) + len(values) > self._cap:
            raise Full("there would be more values than the cap")


class SortedColumn(Column):
    """A column in which no value is less than one ahead of it."""

    def __init__(self, rule, most):
        Column.__init__(self, rule, most)

    def add(self, *values):
        """Adds values that go on from the last one; how many closed pages there are then."""
        check_values(values)
        self._check_order(values)
        return self._added(values)

    def twin(self):
        """An independent copy outside of all blocks, which can take back all deeds."""
        return self._copied_to(SortedColumn(self._rule, self._most))

    def _check_order(self, values):
        told = [*self._contents[-1:], *values]
        for one, other in zip(told, told[1:]):
            if comes_ahead(other, one):
                raise InvalidValue("a value is less than the one ahead of it")


class SortedCappedColumn(SortedColumn, CappedColumn):
    """A sorted column that never has more values than its cap."""

    def __init__(self, rule, most, *, cap):
        CappedColumn.__init__(self, rule, most, cap=cap)

    def add(self, *values):
        """Adds values that go on from the last one, if there is room; how many closed pages there
        are then."""
        check_values(values)
        self._check_order(values)
        self._check_room(values)
        return self._added(values)

    def twin(self):
        """An independent copy outside of all blocks, which can take back all deeds."""
        return self._copied_to(SortedCappedColumn(self._rule, self._most, cap=self._cap))
