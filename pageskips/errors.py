"""The errors that the package raises, each directly under SkipError."""


class SkipError(ValueError):
    """What all errors of the package have in common."""


class InvalidText(SkipError):
    """Not a string of the letters a, b and c."""


class InvalidValue(SkipError):
    """Neither a text nor None, or a value that cannot be used here."""


class InvalidSpan(SkipError):
    """Not a tuple of ascending ranges with gaps between, or not a list of ranges."""


class InvalidFilter(SkipError):
    """Not a filter."""


class InvalidRule(SkipError):
    """Not a rule of notes."""


class InvalidPage(SkipError):
    """Not a list of values with at least one value."""


class InvalidNote(SkipError):
    """Not a note that the rule makes of some page."""


class InvalidColumn(SkipError):
    """Not a list of values."""


class InvalidIndex(SkipError):
    """Not the number of one of the things that are numbered."""


class InvalidNumber(SkipError):
    """Not an integer within the bounds."""


class InvalidCode(SkipError):
    """Not the name of a code."""


class NoBlock(SkipError):
    """No block has begun."""


class NothingToUndo(SkipError):
    """There is nothing that can be taken back."""


class Full(SkipError):
    """There would be more values than the cap."""


class InvalidCommand(SkipError):
    """Not a command of the console."""


class InvalidWords(SkipError):
    """Words that cannot be read; place is the number of the first wrong one."""

    def __init__(self, place):
        SkipError.__init__(self, f"the words cannot be read from word {place} on")
        self.place = place
