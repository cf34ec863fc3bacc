"""Powers of any size, and where they have a value."""

from signedcounts.base.names import check_integer
from signedcounts.base.names import check_pattern
from signedcounts.count.counts import beginnings
from signedcounts.errors import TooMany
from signedcounts.power.zeros import sum_at
from signedcounts.power.zeros import zeros
from signedcounts.table.levels import raised
from signedcounts.table.tables import check_place
from signedcounts.table.tables import check_same_kind
from signedcounts.table.tables import check_table
from signedcounts.table.tables import levels_of
from signedcounts.word.words import check_word

MAX_FAR = 30


def growth(table, pattern):
    """The entries at the pattern of the powers of the table less the unit table, without zeros at the end."""
    check_table(table)
    check_place(table, pattern)
    ends = [pattern[start:] for start in range(len(pattern))]
    found = _growth([[table[end[:size]] for size in range(len(end) + 1)] for end in ends])
    while found and found[-1] == 0:
        found.pop()
    return tuple(found)


def moments(table, pattern, value):
    """The integers for which the power of the table has the value at the pattern; None if all are."""
    grown = growth(table, pattern)
    check_integer(value)
    if grown:
        return tuple(zeros([-value] + list(grown)))
    return None if value == 0 else ()


def exponent(table, other):
    """The integer for which the power of the table is the other table, or None."""
    check_table(table)
    check_table(other)
    check_same_kind(table, other)
    number = 0
    for entry, wanted in zip(table.entries, other.entries):
        # The first entry that is not 0 grows just by itself with each power.
        if entry != 0:
            number = wanted // entry
            break
    return number if raised(levels_of(table), number) == levels_of(other) else None


def far_count(word, number, pattern):
    """The count of the pattern in so many of the word, or of it undone."""
    check_word(word)
    check_integer(number)
    check_pattern(word.letters, pattern)
    if len(pattern) > MAX_FAR:
        raise TooMany(MAX_FAR)
    if pattern == "":
        return 1
    rows = [beginnings(word, pattern[start:]) for start in range(len(pattern))]
    return sum_at([0] + _growth(rows), number)


def _growth(rows):
    """The entries c(1), c(2), .. at a pattern.

    The rows have, for each place from which on an end of the pattern is left, the entries at all
    beginnings of this end.
    """
    found = []
    numbers = [1] + [0] * len(rows)
    for _ in rows:
        numbers = [_sum_of_ways(rows, numbers, size) for size in range(len(rows) + 1)]
        found.append(numbers[-1])
    return found


def _sum_of_ways(rows, numbers, size):
    """One power more at the beginning with so many letters: what is behind the earlier ones is not empty."""
    return sum([numbers[start] * rows[start][size - start] for start in range(size)])
