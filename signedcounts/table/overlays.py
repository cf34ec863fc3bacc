"""Overlays of two patterns, and the rule for their entries."""

from signedcounts.base.names import check_pattern
from signedcounts.errors import InvalidOperation
from signedcounts.errors import TooMany
from signedcounts.pattern.leading import patterns_of
from signedcounts.table.tables import check_table

MAX_OVERLAY = 8


def overlays(letters, one, other):
    """The patterns, in order, of which there are overlays of two patterns, each with their number."""
    check_pattern(letters, one)
    check_pattern(letters, other)
    if len(one) + len(other) > MAX_OVERLAY:
        raise TooMany(MAX_OVERLAY)
    found = _overlay_numbers(one, other)
    ordered = sorted([(len(pattern), pattern) for pattern in found])
    return tuple([(pattern, found[pattern]) for size, pattern in ordered])


def rule_sum(table, one, other):
    """The sum of the entries of a table over all overlays of two patterns."""
    _check_rule(table, one, other)
    return _sum_over(entries_by_pattern(table), one, other)


def does_follow(table, one, other):
    """Whether the product of the entries at two patterns is the sum over all their overlays."""
    _check_rule(table, one, other)
    return follows(entries_by_pattern(table), one, other)


def entries_by_pattern(table):
    """The entries of a table by their patterns, the empty one among them."""
    found = {"": 1}
    for pattern, entry in zip(patterns_of(table.letters, table.depth), table.entries):
        found[pattern] = entry
    return found


def follows(entries, one, other):
    """Whether these entries, by their patterns, follow the rule for two patterns."""
    return entries[one] * entries[other] == _sum_over(entries, one, other)


def _check_rule(table, one, other):
    check_table(table)
    check_pattern(table.letters, one)
    check_pattern(table.letters, other)
    if len(one) + len(other) > table.depth:
        raise InvalidOperation("the two patterns have together more letters than the depth")


def _sum_over(entries, one, other):
    return sum([number * entries[pattern] for pattern, number in _overlay_numbers(one, other).items()])


def _overlay_numbers(one, other):
    """The numbers of the overlays, by their patterns."""
    # The row has, for each end of the other pattern, the overlays of it and an end of the first
    # one, at first the empty end.
    row = [{other[start:]: 1} for start in range(len(other) + 1)]
    for letter in one[::-1]:
        row = _longer_row(letter, other, row)
    return row[0]


def _longer_row(letter, other, row):
    """The row for the end of the first pattern that has this letter ahead."""
    found = [_behind_letter(letter, row[-1])]
    for start in range(len(other) - 1, -1, -1):
        ways = [_behind_letter(letter, row[start]), _behind_letter(other[start], found[-1])]
        if letter == other[start]:
            ways.append(_behind_letter(letter, row[start + 1]))
        found.append(_together(ways))
    return found[::-1]


def _behind_letter(letter, numbers):
    return {letter + pattern: number for pattern, number in numbers.items()}


def _together(ways):
    found = {}
    for numbers in ways:
        for pattern, number in numbers.items():
            found[pattern] = found.get(pattern, 0) + number
    return found
