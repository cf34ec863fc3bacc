"""What commutes."""

from signedcounts.errors import InvalidOperation
from signedcounts.power.roots import greatest_root_of
from signedcounts.table.levels import first_filled
from signedcounts.table.levels import lengthened
from signedcounts.table.levels import raised
from signedcounts.table.levels import times
from signedcounts.table.levels import unit_levels
from signedcounts.table.tables import check_same_kind
from signedcounts.table.tables import check_table
from signedcounts.table.tables import levels_of
from signedcounts.table.tables import table_of_levels
from signedcounts.table.truth import check_true
from signedcounts.word.rounds import period
from signedcounts.word.rounds import stripped
from signedcounts.word.words import check_same_letters
from signedcounts.word.words import check_word
from signedcounts.word.words import reduced
from signedcounts.word.words import undone
from signedcounts.word.words import word_of_runs


def table_level(table):
    """The least number of letters of a pattern that is not empty and has not 0, or None."""
    check_table(table)
    return first_filled(levels_of(table))


def do_commute(one, other):
    """Whether the products of two tables in both orders are equal."""
    check_table(one)
    check_table(other)
    check_same_kind(one, other)
    return _commute(levels_of(one), levels_of(other))


def core(table):
    """The core of a true table that is not the unit table."""
    check_table(table)
    check_true(table)
    levels = levels_of(table)
    _check_filled(levels)
    return table_of_levels(table.letters, core_of(table.letters, levels))


def commuting_parts(table, other):
    """How a true table that commutes is a power of the core, times another table; None if it does not."""
    check_true_pair(table, other)
    levels = levels_of(table)
    _check_filled(levels)
    others = levels_of(other)
    if not _commute(levels, others):
        return None
    cored = core_of(table.letters, levels)
    number = _times_within(cored, others)
    return number, table_of_levels(table.letters, times(raised(cored, -number), others))


def do_words_commute(one, other):
    """Whether two words commute."""
    check_word(one)
    check_word(other)
    check_same_letters(one, other)
    return reduced(one.runs + other.runs) == reduced(other.runs + one.runs)


def word_root(word):
    """The word of which a word is a power with the greatest exponent, and this exponent."""
    check_word(word)
    if len(word) == 0:
        raise InvalidOperation("the empty word is every power of itself")
    ahead, middle = stripped(word.runs)
    if len(middle) == 1:
        letter, exponent = middle[0]
        part = ((letter, 1 if exponent > 0 else -1),)
        number = abs(exponent)
    else:
        part = middle[:period(middle)]
        number = len(middle) // len(part)
    return word_of_runs(word.letters, ahead + part + undone(ahead)), number


def check_true_pair(one, other):
    """Refuse what are no two tables with the same letters and depth, and then tables that are not true."""
    check_table(one)
    check_table(other)
    check_same_kind(one, other)
    check_true(one)
    check_true(other)


def core_of(letters, levels):
    """The levels of the core of a true table that is not the unit table."""
    depth = len(levels) - 1
    first = first_filled(levels)
    if 2 * first > depth:
        return unit_levels(len(letters), depth)
    found = greatest_root_of(letters, levels[:depth - first + 1])[0]
    return lengthened(letters, depth, found)


def _check_filled(levels):
    if first_filled(levels) is None:
        raise InvalidOperation("this is the unit table")


def _commute(levels, others):
    return times(levels, others) == times(others, levels)


def _times_within(cored, others):
    """The power of the core that a table is which commutes, up to longer patterns; 0 for the unit table."""
    first = first_filled(cored)
    if first is None:
        return 0
    # At its level, each entry of the core grows just by itself with each power.
    return [other // entry for entry, other in zip(cored[first], others[first]) if entry != 0][0]
