"""Which true tables are turned into one another, and which words."""

from signedcounts.base.names import MAX_INTEGER
from signedcounts.base.names import are_integers
from signedcounts.base.names import check_number
from signedcounts.base.names import is_integer
from signedcounts.pattern.leading import leading_of
from signedcounts.power.zeros import place_within
from signedcounts.table.levels import exponents_and_levels
from signedcounts.table.levels import first_filled
from signedcounts.table.levels import leading_entries
from signedcounts.table.levels import lengthened
from signedcounts.table.levels import levels_of_brackets
from signedcounts.table.levels import levels_of_exponents
from signedcounts.table.levels import place
from signedcounts.table.levels import raised
from signedcounts.table.levels import times
from signedcounts.table.levels import turned_back
from signedcounts.table.levels import unit_levels
from signedcounts.table.tables import Table
from signedcounts.table.tables import check_table
from signedcounts.table.tables import levels_of
from signedcounts.table.tables import table_of_levels
from signedcounts.table.truth import check_true
from signedcounts.table.truth import is_true
from signedcounts.turn.commuting import check_true_pair
from signedcounts.turn.commuting import core_of
from signedcounts.turn.lattices import left_over
from signedcounts.turn.lattices import parted
from signedcounts.turn.lattices import reduced_rows
from signedcounts.word.rounds import stripped
from signedcounts.word.words import MAX_RUNS
from signedcounts.word.words import check_same_letters
from signedcounts.word.words import check_word
from signedcounts.word.words import reduced
from signedcounts.word.words import undone
from signedcounts.word.words import word_of_runs

_NEAR = 30


def are_turned(one, other):
    """Whether some true table turns the first true table into the second one."""
    check_true_pair(one, other)
    return _way(one.letters, levels_of(one), levels_of(other))[1] > one.depth


def turner(one, other):
    """Any true table that turns the first true table into the second one, or None."""
    check_true_pair(one, other)
    found, size = _way(one.letters, levels_of(one), levels_of(other))
    if size <= one.depth:
        return None
    numbers = _small_exponents(one.letters, levels_of(one), found)
    return table_of_levels(one.letters, levels_of_exponents(one.letters, one.depth, numbers))


def is_turner(one, other, value):
    """Whether the value is a true table that turns the first true table into the second one."""
    check_true_pair(one, other)
    if not isinstance(value, Table) or value.letters != one.letters or value.depth != one.depth:
        return False
    return is_true(value) and _turns(levels_of(value), levels_of(one), levels_of(other))


def shifts(table, size):
    """The shifts of a true table at a size: the rows of which they are all sums of multiples."""
    check_table(table)
    check_number(size, 1, table.depth)
    check_true(table)
    levels = levels_of(table)
    brackets = levels_of_brackets(table.letters, table.depth)
    keepers = _keepers(table.letters, levels, brackets, size)
    rows = _shift_rows(table.letters, levels, brackets, keepers, size)
    return tuple([tuple(row) for row in reduced_rows(rows, _width(table.letters, size))])


def turn_paper(one, other):
    """What shows that some true table turns the first true table into the second one, or that none does."""
    check_true_pair(one, other)
    letters = one.letters
    levels = levels_of(one)
    found, size = _way(letters, levels, levels_of(other))
    if size > one.depth:
        return "by", _small_exponents(letters, levels, found)
    row, rows = _row_and_shifts(letters, levels, levels_of(other), found, size)
    rows = reduced_rows(rows, len(row))
    numbers, modulus = parted(rows, left_over(rows, row, len(row)), leading_entries(letters, levels))
    return "apart", size, numbers, modulus


def is_turn_paper(one, other, value):
    """Whether the value shows that some true table turns the first one into the second one, or that none does."""
    check_true_pair(one, other)
    if not isinstance(value, tuple) or len(value) not in (2, 4):
        return False
    letters = one.letters
    if len(value) == 4:
        return value[0] == "apart" and _is_apart(letters, levels_of(one), levels_of(other), value[1:])
    if value[0] != "by" or not are_integers(value[1], len(leading_of(letters, one.depth))):
        return False
    return _turns(levels_of_exponents(letters, one.depth, value[1]), levels_of(one), levels_of(other))


def word_turner(one, other):
    """Any word that turns the first word into the second one, or None."""
    check_word(one)
    check_word(other)
    check_same_letters(one, other)
    found = []
    for runs in _word_turners(one.runs, other.runs):
        short = all([is_integer(exponent) for letter, exponent in runs])
        if len(runs) <= MAX_RUNS:
            # Any will do, but one of integers that can be passed is better.
            found.append((0 if short else 1, len(runs), runs))
    return word_of_runs(one.letters, min(found)[2]) if found else None


def _turns(turning, levels, others):
    return times(turning, levels) == times(others, turning)


def _way(letters, levels, others):
    """Levels that turn as far as any do, and the size at which that ends, or one more than the depth."""
    brackets = levels_of_brackets(letters, len(levels) - 1)
    found = unit_levels(len(letters), len(levels) - 1)
    for size in range(1, len(levels)):
        width = _width(letters, size)
        keepers = _keepers(letters, levels, brackets, size)
        rows = _shift_rows(letters, levels, brackets, keepers, size)
        # Each row carries how often each keeper is in it.
        carried = [rows[k] + [int(k == at) for at in range(len(rows))] for k in range(len(rows))]
        row = _wanted_row(letters, levels, others, brackets, found, size)
        rest = left_over(reduced_rows(carried, width), row + [0] * len(rows), width)
        if any(rest[:width]):
            return found, size
        for keeper, number in zip(keepers, rest[width:]):
            if number != 0:
                found = times(found, raised(keeper, -number))
    return found, len(levels)


def _width(letters, size):
    return len([pattern for pattern in leading_of(letters, size) if len(pattern) == size])


def _keepers(letters, levels, brackets, size):
    """Levels that turn these into themselves up to size - 1: all shifts at the size come of them.

    By 12.1, what does so is a power of the core of the table cut to the depth size - 1, times
    what has a level; so much of it as is at just this level is made of brackets, and what is at
    greater ones shifts nothing at the size.
    """
    first = first_filled(levels)
    if first is None or size <= first:
        return []
    found = [brackets[pattern] for pattern in brackets if len(pattern) == size - first]
    if 2 * first < size:
        found.append(lengthened(letters, len(levels) - 1, core_of(letters, levels[:size])))
    return found


def _shift_rows(letters, levels, brackets, keepers, size):
    """The shifts at the size that come of the keepers."""
    rows = []
    for keeper in keepers:
        there = times(keeper[:size + 1], levels[:size + 1])[size]
        back = times(levels[:size + 1], keeper[:size + 1])[size]
        rows.append(_row_of(letters, brackets, [x - y for x, y in zip(there, back)], size))
    return rows


def _wanted_row(letters, levels, others, brackets, found, size):
    """The row at the size of what the others have beyond the turned table."""
    turned = times(times(found, levels), turned_back(found))
    return _row_of(letters, brackets, [x - y for x, y in zip(others[size], turned[size])], size)


def _row_of(letters, brackets, level, size):
    """The exponents at the patterns of so many letters, of a table that is the unit table up to shorter ones."""
    start = place(letters, letters[0] * size)
    rest = level
    numbers = []
    for pattern in brackets:
        if len(pattern) == size:
            number = rest[place(letters, pattern) - start]
            rest = [x - number * y for x, y in zip(rest, brackets[pattern][size])]
            numbers.append(number)
    return numbers


def _row_and_shifts(letters, levels, others, found, size):
    brackets = levels_of_brackets(letters, len(levels) - 1)
    keepers = _keepers(letters, levels, brackets, size)
    row = _wanted_row(letters, levels, others, brackets, found, size)
    return row, _shift_rows(letters, levels, brackets, keepers, size)


def _small_exponents(letters, levels, found):
    """Exponents of a table that turns as the found one does; none has too many digits if that can be."""
    depth = len(levels) - 1
    first = first_filled(levels)
    known = 0 if first is None else depth - first
    rest = (0,) * (len(leading_of(letters, depth)) - _many(letters, known))
    if known == 0:
        return rest
    # The tables that turn as this one does are this one, times a power of the core, times what
    # has exponents at the longest patterns alone.
    turning = found[:known + 1]
    cored = core_of(letters, levels)[:known + 1]
    if first_filled(cored) is not None:
        # The exponents are sums of binomials of the number of the power.
        rows = [_exponents_of(letters, times(turning, raised(cored, number))) for number in range(known + 1)]
        number = place_within(_binomial_parts(rows), MAX_INTEGER, _powers_to_try(letters, cored, rows[0]))
        turning = times(turning, raised(cored, number))
    return _exponents_of(letters, turning) + rest


def _many(letters, depth):
    return len(leading_of(letters, depth)) if depth > 0 else 0


def _exponents_of(letters, levels):
    return exponents_and_levels(letters, len(levels) - 1, leading_entries(letters, levels))[0]


def _binomial_parts(rows):
    """For each index of the rows the parts of a sum of binomials that has the numbers there, for 0, 1, 2 .."""
    found = []
    left = rows
    while left:
        found.append(left[0])
        left = [[y - x for x, y in zip(one, other)] for one, other in zip(left, left[1:])]
    return [list(parts) for parts in zip(*found)]


def _powers_to_try(letters, cored, numbers):
    """Powers of the core, one of which makes what has these exponents small at the core's level."""
    steps = _exponents_of(letters, cored[:first_filled(cored) + 1])
    step, at = max([(abs(steps[k]), k) for k in range(len(steps))])
    nearest = -(numbers[at] // steps[at])
    # At longer patterns, the numbers can be much less for a power that is not quite the nearest.
    return [0] + list(range(nearest - _NEAR, nearest + _NEAR + 1))


def _is_apart(letters, levels, others, value):
    size, numbers, modulus = value
    found, last = _way(letters, levels, others)
    if last == len(levels) or not is_integer(size) or size != last:
        return False
    if not are_integers(numbers, _width(letters, size)) or not is_integer(modulus) or modulus < 0 or modulus == 1:
        return False
    row, rows = _row_and_shifts(letters, levels, others, found, size)
    return all([_is_barred(numbers, one, modulus) for one in rows]) and not _is_barred(numbers, row, modulus)


def _is_barred(numbers, row, modulus):
    """Whether the sum of the products is a multiple of the modulus, 0 if this is 0."""
    total = sum([x * y for x, y in zip(numbers, row)])
    return total == 0 if modulus == 0 else total % modulus == 0


def _word_turners(runs, others):
    """The runs of words that turn one word into the other one, some of them if there are any."""
    ahead, middle = stripped(runs)
    other_ahead, other_middle = stripped(others)
    around = middle
    if len(middle) == 1:
        around = ((middle[0][0], 1),)
    found = []
    for size in range(max(1, len(middle))):
        start, end = middle[:size], middle[size:]
        if end + start == other_middle:
            ways = (undone(start), end, end + around, undone(around + start))
            found.extend([reduced(other_ahead + way + undone(ahead)) for way in ways])
    return found
