"""Clubs: sets of true tables with all products, and with all tables undone."""

from signedcounts.base.names import check_depth
from signedcounts.base.names import check_letters
from signedcounts.club.rows import commutator
from signedcounts.club.rows import rows_of
from signedcounts.club.rows import taken_off
from signedcounts.errors import InvalidOperation
from signedcounts.errors import TooMany
from signedcounts.pattern.leading import leading_of
from signedcounts.table.levels import first_filled
from signedcounts.table.levels import levels_of_run
from signedcounts.table.tables import Table
from signedcounts.table.tables import check_table
from signedcounts.table.tables import levels_of
from signedcounts.table.tables import table_of_levels
from signedcounts.table.truth import check_true

MAX_PLACES = 14


class Club:
    """The least club that has all tables of a tuple, told by its rows."""

    def __init__(self, letters, depth, tables):
        check_letters(letters)
        check_depth(depth)
        _check_tables(letters, depth, tables)
        if len(leading_of(letters, depth)) > MAX_PLACES:
            raise TooMany(MAX_PLACES)
        found = rows_of(letters, depth, [levels_of(table) for table in tables])
        self._letters = letters
        self._depth = depth
        self._rows = tuple([numbers for at, pivot, levels, numbers in found])
        self._steps = tuple([(at, pivot, levels) for at, pivot, levels, numbers in found])

    @property
    def letters(self):
        """The letters."""
        return self._letters

    @property
    def depth(self):
        """The depth of the tables."""
        return self._depth

    @property
    def rows(self):
        """The exponents of the tables of the rows."""
        return self._rows

    @property
    def parts(self):
        """The number of parts into which the true tables fall, or None."""
        if len(self._rows) < len(leading_of(self._letters, self._depth)):
            return None
        product = 1
        for at, pivot, levels in self._steps:
            product = product * pivot
        return product

    def __contains__(self, value):
        if not isinstance(value, Table) or not _is_of(value, self._letters, self._depth):
            return False
        # A table of which the rows leave the unit table is their product, and so it is true.
        return _has(self._steps, levels_of(value))

    def __len__(self):
        return len(self._rows)

    def __eq__(self, other):
        if not isinstance(other, Club) or self._letters != other._letters:
            return False
        return self._depth == other._depth and self._rows == other._rows

    def __str__(self):
        return f"club of {len(self._rows)} rows, depth {self._depth} over {self._letters}"

    def __repr__(self):
        return f"<club of {len(self._rows)} rows, depth {self._depth} over {self._letters}>"

    def numbers(self, table):
        """How often the rows, in order, are in a table of the club; None for another table."""
        self._check(table)
        found, rest = taken_off(self._steps, levels_of(table))
        return tuple(found) if first_filled(rest) is None else None

    def joined(self, other):
        """The least club that has both."""
        if not isinstance(other, Club) or not _is_of(other, self._letters, self._depth):
            raise InvalidOperation("the other one is no club with the same letters and depth")
        return Club(self._letters, self._depth, _tables_of(self) + _tables_of(other))

    def turned(self, table):
        """The club of all its tables with the table ahead and this one undone behind them."""
        self._check(table)
        tables = [table * one * ~table for one in _tables_of(self)]
        return Club(self._letters, self._depth, tuple(tables))

    def is_within(self, value):
        """Whether the value is a club with the same letters and depth that has all tables of this one."""
        if not isinstance(value, Club) or not _is_of(value, self._letters, self._depth):
            return False
        return all([_has(value._steps, levels) for at, pivot, levels in self._steps])

    def is_kept(self):
        """Whether the club is turned into itself by each true table."""
        turning = [levels_of_run(self._letters, self._depth, letter, 1) for letter in self._letters]
        ways = [commutator(one, levels) for one in turning for at, pivot, levels in self._steps]
        return all([_has(self._steps, levels) for levels in ways])

    def _check(self, table):
        check_table(table)
        if not _is_of(table, self._letters, self._depth):
            raise InvalidOperation("the table has other letters, or another depth, than the club")
        check_true(table)


def _check_tables(letters, depth, tables):
    if not isinstance(tables, tuple):
        raise InvalidOperation("tables are a tuple")
    for table in tables:
        check_table(table)
    if not all([_is_of(table, letters, depth) for table in tables]):
        raise InvalidOperation("the tables have other letters, or another depth")
    for table in tables:
        check_true(table)


def _is_of(value, letters, depth):
    return value.letters == letters and value.depth == depth


def _has(steps, levels):
    """Whether a true table is a product of powers of the rows."""
    return first_filled(taken_off(steps, levels)[1]) is None


def _tables_of(club):
    return tuple([table_of_levels(club._letters, levels) for at, pivot, levels in club._steps])
