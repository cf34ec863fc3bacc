"""The rows of a club, found and taken off tables.

Tables are told by their levels. A row is a tuple of its place, which is a pair of the number of
letters and the index among all patterns of so many letters, the pivot there, and its levels. Of a
true table that has exponents 0 at all places ahead, the entry at a place is the exponent.
"""

from signedcounts.pattern.leading import leading_of
from signedcounts.table.levels import levels_of_brackets
from signedcounts.table.levels import place
from signedcounts.table.levels import raised
from signedcounts.table.levels import times
from signedcounts.table.levels import turned_back
from signedcounts.turn.lattices import divisor_and_times


def rows_of(letters, depth, tables):
    """The rows of the least club that has all the tables."""
    places = _places_of(letters, depth)
    rows = []
    left = list(tables)
    while left:
        rest = taken_off(rows, left.pop())[1]
        at = _first_filled_place(places, rest)
        if at is not None:
            kept = [row for row in rows if row[0] != at]
            row, others = _joined_rows([row for row in rows if row[0] == at], at, rest)
            # A club has, with two tables, what they make with both undone; what is left of it is
            # taken in, too, until nothing is.
            left.extend(others + [commutator(row[2], other[2]) for other in kept if _reach(row, other) <= depth])
            rows = _in_order(kept + [row])
    return _settled(letters, depth, rows)


def taken_off(rows, levels):
    """How often the rows, one after the other, are taken off the beginning of a table, and what is left."""
    rest = levels
    numbers = []
    for at, pivot, row in rows:
        number = rest[at[0]][at[1]] // pivot
        if number != 0:
            rest = times(raised(row, -number), rest)
        numbers.append(number)
    return numbers, rest


def commutator(levels, others):
    """The levels of a table, another one, and both undone."""
    return times(times(levels, others), turned_back(times(others, levels)))


def _places_of(letters, depth):
    """The places of the leading patterns, in order."""
    starts = [place(letters, letters[0] * size) for size in range(depth + 1)]
    return [(len(pattern), place(letters, pattern) - starts[len(pattern)]) for pattern in leading_of(letters, depth)]


def _first_filled_place(places, levels):
    for at in places:
        if levels[at[0]][at[1]] != 0:
            return at
    return None


def _joined_rows(rows, at, rest):
    """The row at a place, of the one that is there, if one is, and a table; and what is left of both."""
    entry = rest[at[0]][at[1]]
    if not rows:
        return (at, abs(entry), rest if entry > 0 else turned_back(rest)), []
    pivot, levels = rows[0][1], rows[0][2]
    divisor, ways, other_ways = divisor_and_times(pivot, entry)
    joined = times(raised(levels, ways), raised(rest, other_ways))
    others = [
        times(raised(joined, -(pivot // divisor)), levels),
        times(raised(joined, -(entry // divisor)), rest),
    ]
    return (at, divisor, joined), others


def _reach(row, other):
    """The least number of letters of a pattern at which the commutator can have other than 0."""
    return row[0][0] + other[0][0]


def _in_order(rows):
    by_place = {row[0]: row for row in rows}
    return [by_place[at] for at in sorted([row[0] for row in rows])]


def _settled(letters, depth, rows):
    """The rows with their exponents, those at the later pivots from 0 on and less than these."""
    brackets = levels_of_brackets(letters, depth)
    pairs = list(zip(_places_of(letters, depth), [brackets[pattern] for pattern in brackets]))
    found = []
    for row in rows[::-1]:
        later = {other[0]: other for other in found}
        numbers, levels = _small(pairs, later, row[2])
        found = [(row[0], row[1], levels, numbers)] + found
    return found


def _small(pairs, later, levels):
    """The exponents and levels of a table, times powers of later rows that make them small at the pivots."""
    found = levels
    rest = levels
    numbers = []
    for at, bracket in pairs:
        number = rest[at[0]][at[1]]
        if at in later:
            ways = number // later[at][1]
            power = raised(later[at][2], -ways)
            found = times(found, power)
            rest = times(rest, power)
            number = number - ways * later[at][1]
        if number != 0:
            rest = times(raised(bracket, -number), rest)
        numbers.append(number)
    return tuple(numbers), found
