"""Roots of true tables."""

from math import gcd

from signedcounts.base.names import are_integers
from signedcounts.base.names import is_integer
from signedcounts.errors import InvalidNumber
from signedcounts.errors import InvalidOperation
from signedcounts.pattern.leading import is_leading
from signedcounts.pattern.leading import leading_of
from signedcounts.table.levels import entry_at
from signedcounts.table.levels import first_filled
from signedcounts.table.levels import lengthened
from signedcounts.table.levels import raised
from signedcounts.table.levels import times
from signedcounts.table.levels import to_entries
from signedcounts.table.levels import unit_levels
from signedcounts.table.tables import check_table
from signedcounts.table.tables import levels_of
from signedcounts.table.tables import table_of_levels
from signedcounts.table.truth import check_true


def root(table, number):
    """The root of a true table by a number, or None."""
    _check(table, number)
    above, below = _root_parts(levels_of(table), number)
    if _bars(table, above, below):
        return None
    return table_of_levels(table.letters, _divided(above, below))


def greatest_root(table):
    """The root of a true table by the greatest number by which there is one, and this number."""
    check_table(table)
    check_true(table)
    levels = levels_of(table)
    if first_filled(levels) is None:
        raise InvalidOperation("the unit table has roots by all numbers")
    found, number = greatest_root_of(table.letters, levels)
    return table_of_levels(table.letters, found), number


def root_paper(table, number):
    """What shows that a true table has a root by a number, the entries, or that it has none."""
    _check(table, number)
    above, below = _root_parts(levels_of(table), number)
    bars = _bars(table, above, below)
    if not bars:
        return "root", to_entries(_divided(above, below))
    # Any bar will do, but one of integers that can be passed is better.
    short = [bar for bar in bars if is_integer(bar[1]) and is_integer(bar[2])]
    return ("bar",) + (short + bars)[0]


def is_root_paper(table, number, value):
    """Whether the value shows that a true table has a root by a number, or that it has none."""
    _check(table, number)
    if not isinstance(value, tuple) or len(value) not in (2, 4):
        return False
    above, below = _root_parts(levels_of(table), number)
    if len(value) == 4:
        return _is_bar(table, value, above, below)
    if value[0] != "root" or not are_integers(value[1], len(table.entries)):
        return False
    return not _bars(table, above, below) and value[1] == to_entries(_divided(above, below))


def greatest_root_of(letters, levels):
    """The levels of the greatest root of a true table that is not the unit table, and its number."""
    number = 0
    found = [[1]]
    for size in range(1, len(levels)):
        # So far, the root by the number is found up to shorter patterns. What the table has beyond
        # the power of a longer table changes no other level, and takes no turn in products.
        longer = lengthened(letters, size, found)
        rest = [x - y for x, y in zip(levels[size], raised(longer, number)[size])]
        divisor = number
        for entry in rest:
            divisor = gcd(divisor, entry)
        found = longer
        if divisor > 0:
            power = raised(longer, number // divisor)
            found = power[:size] + [[x + y // divisor for x, y in zip(power[size], rest)]]
        number = divisor
    return found, number


def _check(table, number):
    check_table(table)
    if not is_integer(number) or number < 1:
        raise InvalidNumber(number)
    check_true(table)


def _root_parts(levels, number):
    """The levels of all that F has, times one number, and this number."""
    rest = [[0]] + levels[1:]
    power = unit_levels(len(levels[1]), len(levels) - 1)
    above = power
    below = 1
    ways = 1
    for size in range(1, len(levels)):
        power = times(power, rest)
        ways = ways * (1 - (size - 1) * number)
        more = size * number
        above = [[x * more + ways * y for x, y in zip(low, high)] for low, high in zip(above, power)]
        below = below * more
    return above, below


def _divided(levels, number):
    return [[entry // number for entry in level] for level in levels]


def _bars(table, above, below):
    """The leading patterns at which F has no integer, each with the fraction in lowest terms."""
    pairs = [(pattern, entry_at(above, table.letters, pattern)) for pattern in leading_of(table.letters, table.depth)]
    return [(pattern,) + _lowest(entry, below) for pattern, entry in pairs if entry % below != 0]


def _lowest(above, below):
    divisor = gcd(above, below)
    return above // divisor, below // divisor


def _is_bar(table, value, above, below):
    word, pattern, one, other = value
    if word != "bar" or not is_leading(table.letters, pattern) or len(pattern) > table.depth:
        return False
    if not is_integer(one) or not is_integer(other) or other < 2:
        return False
    return (one, other) == _lowest(entry_at(above, table.letters, pattern), below)
