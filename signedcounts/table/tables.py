"""Tables: an integer for each pattern of at most so many letters."""

from signedcounts.base.names import are_integers
from signedcounts.base.names import check_depth
from signedcounts.base.names import check_integer
from signedcounts.base.names import check_letters
from signedcounts.base.names import check_number
from signedcounts.base.names import check_pattern
from signedcounts.errors import InvalidOperation
from signedcounts.errors import InvalidPattern
from signedcounts.errors import InvalidTable
from signedcounts.table.levels import levels_of_runs
from signedcounts.table.levels import place
from signedcounts.table.levels import raised
from signedcounts.table.levels import times
from signedcounts.table.levels import to_entries
from signedcounts.table.levels import to_levels
from signedcounts.table.levels import turned_back
from signedcounts.table.levels import unit_levels
from signedcounts.word.words import check_word


class Table:
    """A table: an integer for each pattern of at most so many letters, 1 for the empty one."""

    def __init__(self, letters, depth, entries):
        check_letters(letters)
        check_depth(depth)
        if not are_integers(entries, _amount(letters, depth)):
            raise InvalidOperation("entries are a tuple of an integer for each pattern")
        self._letters = letters
        self._depth = depth
        self._entries = entries

    @classmethod
    def of(cls, word, depth):
        """The table of a word."""
        check_word(word)
        check_depth(depth)
        return table_of_levels(word.letters, levels_of_runs(word.letters, depth, word.runs))

    @classmethod
    def unit(cls, letters, depth):
        """The table of the empty word."""
        check_letters(letters)
        check_depth(depth)
        return cls(letters, depth, to_entries(unit_levels(len(letters), depth)))

    @property
    def letters(self):
        """The letters."""
        return self._letters

    @property
    def depth(self):
        """The greatest number of letters of a pattern."""
        return self._depth

    @property
    def entries(self):
        """The tuple of the integers at the patterns, in order."""
        return self._entries

    def __getitem__(self, pattern):
        check_pattern(self._letters, pattern)
        if len(pattern) > self._depth:
            raise InvalidPattern("the pattern has more letters than the depth")
        index = place(self._letters, pattern)
        return self._entries[index - 1] if index > 0 else 1

    def __len__(self):
        return len(self._entries)

    def __iter__(self):
        raise TypeError("a table can not be iterated over")

    def __eq__(self, other):
        if not isinstance(other, Table) or self._letters != other._letters:
            return False
        return self._depth == other._depth and self._entries == other._entries

    def __str__(self):
        return f"table of depth {self._depth} over {self._letters}"

    def __repr__(self):
        # The entries can be longer than what Python writes, so they are not told.
        return f"<table of depth {self._depth} over {self._letters}>"

    def __mul__(self, other):
        if not isinstance(other, Table) or self._letters != other._letters or self._depth != other._depth:
            raise InvalidOperation("the other operand is no table with the same letters and depth")
        return table_of_levels(self._letters, times(levels_of(self), levels_of(other)))

    def __invert__(self):
        return table_of_levels(self._letters, turned_back(levels_of(self)))

    def power(self, number):
        """So many of the table, one times the other; for any integer."""
        check_integer(number)
        return table_of_levels(self._letters, raised(levels_of(self), number))

    def cut(self, depth):
        """The table of a lesser or equal depth with the same entries."""
        check_number(depth, 1, self._depth)
        return table_of_levels(self._letters, levels_of(self)[:depth + 1])

    def with_entry(self, pattern, value):
        """The table with another entry at a pattern."""
        check_place(self, pattern)
        check_integer(value)
        index = place(self._letters, pattern)
        entries = self._entries[:index - 1] + (value,) + self._entries[index:]
        return _table_of_entries(self._letters, self._depth, entries)


def check_table(value):
    """Refuse a value that is no table."""
    if not isinstance(value, Table):
        raise InvalidTable("this is no table")


def check_same_kind(one, other):
    """Refuse two tables with unlike letters or depths."""
    if one.letters != other.letters or one.depth != other.depth:
        raise InvalidOperation("the two tables have unlike letters or depths")


def check_place(table, pattern):
    """Refuse a value that is no pattern, that is empty, or that is longer than the depth."""
    check_pattern(table.letters, pattern)
    if not 1 <= len(pattern) <= table.depth:
        raise InvalidPattern("the pattern is empty, or has more letters than the depth")


def levels_of(table):
    """The entries of the table, level by level."""
    return to_levels(table.entries, len(table.letters), table.depth)


def table_of_levels(letters, levels):
    """The table with these entries, which can be longer than passed ones."""
    return _table_of_entries(letters, len(levels) - 1, to_entries(levels))


def _table_of_entries(letters, depth, entries):
    table = Table(letters, 1, (0,) * len(letters))
    table._depth = depth
    table._entries = entries
    return table


def _amount(letters, depth):
    """The number of the patterns, which is the index of the last one from the empty one on."""
    return place(letters, letters[-1] * depth)
