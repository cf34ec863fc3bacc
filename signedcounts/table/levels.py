"""Numbers at all patterns of at most so many letters, level by level.

A level is a list of the numbers at all patterns with just so many letters, in order; the first
level has the one number at the empty pattern. In this order, a pattern of a beginning and an end
stands where the product of two lists, each number of the first one with all of the second one,
has the product of their numbers.
"""

from signedcounts.count.counts import binomials
from signedcounts.pattern.leading import halves_of
from signedcounts.pattern.leading import leading_of


def place(letters, pattern):
    """The index of a pattern among all patterns, in order, from the empty one on."""
    index = 0
    for letter in pattern:
        index = index * len(letters) + letters.find(letter) + 1
    return index


def entry_at(levels, letters, pattern):
    """The number at a pattern."""
    first = place(letters, letters[0] * len(pattern))
    return levels[len(pattern)][place(letters, pattern) - first]


def leading_entries(letters, levels):
    """The numbers at the leading patterns, in order."""
    return [entry_at(levels, letters, pattern) for pattern in leading_of(letters, len(levels) - 1)]


def first_filled(levels):
    """The least number of letters, at least 1, of a pattern at which the number is not 0, or None."""
    for size in range(1, len(levels)):
        if any(levels[size]):
            return size
    return None


def to_levels(entries, many, depth):
    """The levels of a table with so many letters."""
    found = [[1]]
    start = 0
    size = 1
    for _ in range(depth):
        size = size * many
        found.append(list(entries[start:start + size]))
        start = start + size
    return found


def to_entries(levels):
    """The tuple of the numbers at all patterns that are not empty."""
    return tuple([number for level in levels[1:] for number in level])


def unit_levels(many, depth):
    """The levels of the unit table."""
    found = [[1]]
    for _ in range(depth):
        found.append([0] * (len(found[-1]) * many))
    return found


def times(one, other):
    """The levels of the product."""
    return [_level_of_ways(one, other, size, 0) for size in range(len(one))]


def turned_back(levels):
    """The levels whose product with these is the unit table."""
    found = [[1]]
    for size in range(1, len(levels)):
        found.append([-number for number in _level_of_ways(levels, found, size, 1)])
    return found


def raised(levels, number):
    """The levels of the power, for a number of any size."""
    rest = [[0]] + levels[1:]
    row = binomials(number, len(levels) - 1)
    power = unit_levels(len(levels[1]), len(levels) - 1)
    found = power
    for ways in row[1:]:
        power = times(power, rest)
        found = [[x + ways * y for x, y in zip(low, high)] for low, high in zip(found, power)]
    return found


def levels_of_run(letters, depth, letter, exponent):
    """The levels of the table of a word of one run."""
    found = [[1]]
    index = 0
    for ways in binomials(exponent, depth)[1:]:
        index = index * len(letters) + letters.find(letter)
        behind = len(found[-1]) * len(letters) - index - 1
        found.append([0] * index + [ways] + [0] * behind)
    return found


def levels_of_runs(letters, depth, runs):
    """The levels of the table of a word."""
    found = unit_levels(len(letters), depth)
    for letter, exponent in runs:
        found = times(found, levels_of_run(letters, depth, letter, exponent))
    return found


def levels_of_brackets(letters, depth):
    """The levels of the tables of the brackets, by the leading patterns, in order."""
    found = {}
    backs = {}
    for pattern in leading_of(letters, depth):
        if len(pattern) == 1:
            found[pattern] = levels_of_run(letters, depth, pattern, 1)
        else:
            one, other = halves_of(pattern)
            there = times(found[one], found[other])
            found[pattern] = times(there, times(backs[one], backs[other]))
        backs[pattern] = turned_back(found[pattern])
    return found


def levels_of_exponents(letters, depth, numbers):
    """The levels of the true table with these exponents."""
    brackets = levels_of_brackets(letters, depth)
    found = unit_levels(len(letters), depth)
    for pattern, number in zip(leading_of(letters, depth), numbers):
        found = times(found, raised(brackets[pattern], number))
    return found


def exponents_and_levels(letters, depth, wanted):
    """The exponents and the levels of the true table with these entries at the leading patterns."""
    brackets = levels_of_brackets(letters, depth)
    found = unit_levels(len(letters), depth)
    numbers = []
    for pattern, entry in zip(leading_of(letters, depth), wanted):
        # A bracket has 1 at its own pattern and 0 at all leading ones ahead of it, so
        # each factor changes no entry that is right already.
        number = entry - entry_at(found, letters, pattern)
        found = times(found, raised(brackets[pattern], number))
        numbers.append(number)
    return tuple(numbers), found


def lengthened(letters, depth, levels):
    """The levels of the true table of this depth which is, cut, the true table with these levels.

    Its exponents at longer leading patterns are 0.
    """
    if len(levels) == 1:
        return unit_levels(len(letters), depth)
    numbers = exponents_and_levels(letters, len(levels) - 1, leading_entries(letters, levels))[0]
    rest = len(leading_of(letters, depth)) - len(numbers)
    return levels_of_exponents(letters, depth, numbers + (0,) * rest)


def _level_of_ways(one, other, size, least):
    """The sums, at the patterns of so many letters, over all beginnings of at least so many letters."""
    ways = [
        [x * y for x in one[many] for y in other[size - many]]
        for many in range(least, size + 1)
        if any(one[many]) and any(other[size - many])
    ]
    if len(ways) == 0:
        return [0] * len(one[size])
    return [sum(numbers) for numbers in zip(*ways)]
