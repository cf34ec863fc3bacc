"""Words that are equal, or parted by a world."""

from signedcounts.base.names import check_depth
from signedcounts.base.names import check_pattern
from signedcounts.base.names import is_integer
from signedcounts.base.names import is_pattern
from signedcounts.count.counts import binomials
from signedcounts.count.counts import reaches
from signedcounts.count.counts import runs_that_count
from signedcounts.errors import InvalidNumber
from signedcounts.pattern.leading import patterns_of
from signedcounts.table.tables import Table
from signedcounts.word.words import check_same_letters
from signedcounts.word.words import check_word
from signedcounts.word.words import reduced
from signedcounts.word.words import undone


def level(word, depth):
    """The least number of letters of a pattern whose count is not 0, or None."""
    check_word(word)
    check_depth(depth)
    for pattern, entry in zip(patterns_of(word.letters, depth), Table.of(word, depth).entries):
        if entry != 0:
            return len(pattern)
    return None


def first_difference(one, other, depth):
    """The first pattern whose counts in two words are unlike, or None."""
    check_word(one)
    check_word(other)
    check_depth(depth)
    check_same_letters(one, other)
    entries = Table.of(one, depth).entries
    other_entries = Table.of(other, depth).entries
    for pattern, entry, other_entry in zip(patterns_of(one.letters, depth), entries, other_entries):
        if entry != other_entry:
            return pattern
    return None


def run_pattern(one, other):
    """The letters of the runs of the first word with the second one undone behind it, and their count."""
    _check_words(one, other)
    runs = reduced(one.runs + undone(other.runs))
    if len(runs) == 0:
        return None
    number = 1
    for run in runs:
        number = number * run[1]
    return "".join([run[0] for run in runs]), number


def image(word, pattern, modulus):
    """The square table of the word in the world of a pattern and a modulus."""
    check_word(word)
    check_pattern(word.letters, pattern)
    if not _is_modulus(modulus):
        raise InvalidNumber(modulus)
    columns = _columns(word, pattern, modulus)
    return tuple([_row(columns, index) for index in range(len(columns))])


def parting(one, other):
    """What shows that two words are equal, or that they are not: a world in which they are unlike."""
    told = run_pattern(one, other)
    if told is None:
        return ("equal",)
    pattern, number = told
    # This ends soon: a count that all small moduli divide is greater than their least common multiple.
    modulus = 2
    while number % modulus == 0:
        modulus = modulus + 1
    return "world", pattern, modulus


def is_parting(one, other, value):
    """Whether the value shows that two words are equal, or that they are not."""
    _check_words(one, other)
    if not isinstance(value, tuple) or len(value) not in (1, 3):
        return False
    if len(value) == 1:
        return value[0] == "equal" and one == other
    word, pattern, modulus = value
    if word != "world" or not is_pattern(one.letters, pattern) or not _is_modulus(modulus):
        return False
    return _columns(one, pattern, modulus) != _columns(other, pattern, modulus)


def _check_words(one, other):
    check_word(one)
    check_word(other)
    check_same_letters(one, other)


def _is_modulus(value):
    return is_integer(value) and value >= 2


def _columns(word, pattern, modulus):
    """The columns of the square table, each down to the row at which it has 1."""
    reach = reaches(pattern)
    longest = max(reach)
    columns = [[0] * size + [1] for size in range(len(pattern) + 1)]
    for letter, number in runs_that_count(word, pattern):
        row = [ways % modulus for ways in binomials(number, longest)]
        # From the last column on, so that each one is made of the old ones ahead of it.
        for size in range(len(pattern), 0, -1):
            if pattern[size - 1] == letter:
                chosen = row[:reach[size] + 1]
                columns[size] = _stretched(columns[:size + 1], chosen, modulus)
    return columns


def _row(columns, index):
    return tuple([column[index] if index < len(column) else 0 for column in columns])


def _stretched(columns, chosen, modulus):
    """The last column, and the earlier ones so many times as is chosen."""
    found = columns[-1]
    for back in range(1, len(chosen)):
        ways = chosen[back]
        if ways != 0:
            earlier = columns[-1 - back]
            found = [x + ways * y for x, y in zip(found, earlier)] + found[len(earlier):]
    return [number % modulus for number in found]
