"""The errors of the package."""


class CountError(ValueError):
    """A value that is not what it should be."""


class InvalidName(CountError):
    """A value that should be a name."""


class InvalidLetters(CountError):
    """A value that should be letters."""


class InvalidText(CountError):
    """A value that should be a text of the letters that are wanted."""


class InvalidPattern(CountError):
    """A value that should be a pattern of the letters that are wanted."""


class InvalidWord(CountError):
    """A value that should be a word."""


class InvalidTable(CountError):
    """A value that should be a table."""


class InvalidOperation(CountError):
    """Values that do not fit what is asked for."""


class ParseError(CountError):
    """A text that can't be read; `index` is that of the line."""

    def __init__(self, index):
        self.index = index

    def __str__(self):
        return f"the line at index {self.index} can't be read"


class InvalidNumber(IndexError):
    """A value that should be a number within some bounds."""

    def __init__(self, value):
        kept = _copied(value)
        IndexError.__init__(self, kept)
        self.value = kept

    def __str__(self):
        return repr(self.value)


class UnknownName(KeyError):
    """A name under which nothing is kept."""

    def __init__(self, name):
        kept = _copied(name)
        KeyError.__init__(self, kept)
        self.name = kept

    def __str__(self):
        return repr(self.name)


class TooMany(OverflowError):
    """More parts than the limit allows."""

    def __init__(self, limit):
        self.limit = limit

    def __str__(self):
        return f"more than {self.limit}"


class NothingToUndo(LookupError):
    """Fewer calls to take back, or to do again, than are asked for."""

    def __init__(self, many):
        self.many = many

    def __str__(self):
        return f"fewer than {self.many}"


class NotTrue(ArithmeticError):
    """A table that does not follow the rule for two patterns."""

    def __init__(self, one, other):
        self.one = one
        self.other = other

    def __str__(self):
        return f"the rule does not hold for {self.one!r} and {self.other!r}"


def _copied(value):
    """The same value; an error shares no list and no dict with its maker."""
    if isinstance(value, list):
        return [_copied(part) for part in value]
    if isinstance(value, tuple):
        return tuple([_copied(part) for part in value])
    if isinstance(value, dict):
        return {key: _copied(part) for key, part in value.items()}
    return value
