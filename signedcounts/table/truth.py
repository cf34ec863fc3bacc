"""True tables, and the faults of the others."""

from signedcounts.base.names import are_integers
from signedcounts.base.names import is_pattern
from signedcounts.errors import NotTrue
from signedcounts.pattern.leading import leading_of
from signedcounts.pattern.leading import patterns_of
from signedcounts.table.levels import exponents_and_levels
from signedcounts.table.overlays import entries_by_pattern
from signedcounts.table.overlays import follows
from signedcounts.table.tables import check_table
from signedcounts.table.tables import table_of_levels


def is_true(table):
    """Whether the table follows the rule for all pairs of patterns."""
    return first_fault(table) is None


def first_fault(table):
    """The first pair of patterns for which the table does not follow the rule, or None."""
    check_table(table)
    entries = entries_by_pattern(table)
    patterns = patterns_of(table.letters, table.depth)
    for size in range(2, table.depth + 1):
        for one in patterns:
            for other in _partners(patterns, one, size):
                if not follows(entries, one, other):
                    return one, other
    return None


def is_fault(table, value):
    """Whether the value is a pair of patterns, in either order, for which the table does not follow the rule."""
    check_table(table)
    if not isinstance(value, tuple) or len(value) != 2:
        return False
    one, other = value
    if not _is_filled(table.letters, one) or not _is_filled(table.letters, other):
        return False
    if len(one) + len(other) > table.depth:
        return False
    return not follows(entries_by_pattern(table), one, other)


def mended(table):
    """The only true table with the same entries at the leading patterns."""
    check_table(table)
    found = exponents_and_levels(table.letters, table.depth, entries_that_lead(table))
    return table_of_levels(table.letters, found[1])


def paper(table):
    """What shows that the table is true, its exponents, or that it is not, a fault."""
    fault = first_fault(table)
    if fault is None:
        return "word", exponents_of_true(table)
    return "fault", fault[0], fault[1]


def is_paper(table, value):
    """Whether the value is a paper of the table."""
    check_table(table)
    if not isinstance(value, tuple) or len(value) < 2:
        return False
    if value[0] == "fault":
        return is_fault(table, value[1:])
    if value[0] != "word" or len(value) != 2:
        return False
    if not are_integers(value[1], len(leading_of(table.letters, table.depth))):
        return False
    return is_true(table) and value[1] == exponents_of_true(table)


def check_true(table):
    """Refuse a table that is not true."""
    fault = first_fault(table)
    if fault is not None:
        raise NotTrue(fault[0], fault[1])


def exponents_of_true(table):
    """The exponents of a table that is known to be true."""
    return exponents_and_levels(table.letters, table.depth, entries_that_lead(table))[0]


def entries_that_lead(table):
    """The entries of the table at the leading patterns, in order."""
    return tuple([table[pattern] for pattern in leading_of(table.letters, table.depth)])


def _partners(patterns, one, size):
    """The patterns, not ahead of this one, that have together with it so many letters."""
    rest = size - len(one)
    if rest < len(one):
        return []
    return [other for other in patterns if len(other) == rest and (rest > len(one) or other >= one)]


def _is_filled(letters, value):
    return is_pattern(letters, value) and value != ""
