"""Brackets, and the true tables that are products of powers of theirs."""

from signedcounts.base.names import are_integers
from signedcounts.base.names import check_depth
from signedcounts.base.names import check_letters
from signedcounts.base.names import check_pattern
from signedcounts.errors import InvalidOperation
from signedcounts.errors import TooMany
from signedcounts.pattern.leading import halves_of
from signedcounts.pattern.leading import is_leading
from signedcounts.pattern.leading import leading_of
from signedcounts.table.levels import exponents_and_levels
from signedcounts.table.levels import levels_of_exponents
from signedcounts.table.tables import check_table
from signedcounts.table.tables import table_of_levels
from signedcounts.table.truth import check_true
from signedcounts.table.truth import entries_that_lead
from signedcounts.table.truth import exponents_of_true
from signedcounts.word.words import MAX_RUNS
from signedcounts.word.words import Word
from signedcounts.word.words import undone
from signedcounts.word.words import word_of_runs

# A product of powers of brackets that have together more signs than this, single letters aside,
# surely has more than 200 runs. No power of one bracket is a power of another one turned, so two
# such powers have no stretch in common that is longer than both brackets, and undo one another at
# no longer one. At depth 5 that makes at most 29000 signs in all; a bracket has at most three equal
# signs side by side, so what is left has thousands of runs.
_SURELY_MANY = 100000


def bracket_of(letters, pattern):
    """The bracket of a leading pattern."""
    check_pattern(letters, pattern)
    if not is_leading(letters, pattern):
        raise InvalidOperation("only a leading pattern has a bracket")
    found = {}
    for part, pair in _parts(pattern):
        if len(part) == 1:
            found[part] = Word(letters, ((part, 1),))
        else:
            found[part] = found[pair[0]].bracket(found[pair[1]])
    return found[pattern]


def exponents(table):
    """The exponents of a true table."""
    check_table(table)
    check_true(table)
    return exponents_of_true(table)


def by_exponents(letters, depth, numbers):
    """The true table with these exponents."""
    _check_numbers(letters, depth, numbers)
    return table_of_levels(letters, levels_of_exponents(letters, depth, numbers))


def leading_values(table):
    """The entries of any table at the leading patterns."""
    check_table(table)
    return entries_that_lead(table)


def by_leading(letters, depth, numbers):
    """The only true table with these entries at the leading patterns."""
    _check_numbers(letters, depth, numbers)
    return table_of_levels(letters, exponents_and_levels(letters, depth, numbers)[1])


def word_of(table):
    """The word that is the product of the brackets raised to the exponents of a true table."""
    numbers = exponents(table)
    runs = []
    signs = 0
    for pattern, number in zip(leading_of(table.letters, table.depth), numbers):
        if len(pattern) == 1:
            runs.append((pattern, number))
        else:
            bracket = bracket_of(table.letters, pattern)
            signs = signs + bracket.size * abs(number)
            if signs > _SURELY_MANY:
                raise TooMany(MAX_RUNS)
            one = bracket.runs if number >= 0 else undone(bracket.runs)
            runs.extend(one * abs(number))
    return word_of_runs(table.letters, runs)


def _parts(pattern):
    """The pattern, its halves, their halves and so on, short ones first, each with its own halves."""
    found = {}
    left = [pattern]
    while left:
        part = left.pop()
        if part not in found:
            found[part] = halves_of(part) if len(part) > 1 else ()
            left.extend(list(found[part]))
    ordered = sorted([(len(part), part) for part in found])
    return [(part, found[part]) for size, part in ordered]


def _check_numbers(letters, depth, numbers):
    check_letters(letters)
    check_depth(depth)
    if not are_integers(numbers, len(leading_of(letters, depth))):
        raise InvalidOperation("numbers are a tuple of an integer for each leading pattern")
