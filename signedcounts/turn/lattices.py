"""Sums of multiples of rows of integers.

Each row is a list of integers of the same number. Reduced rows are as 13.2 and `shifts` tell them:
the first number that is not 0, the pivot, is greater than 0 and stands at a greater index than that
of the row ahead, and the rows ahead have there numbers from 0 on that are less.
"""

from math import gcd

_SMALL = 200


def reduced_rows(rows, width):
    """The reduced rows that have the same sums of multiples.

    Only the first numbers, so many as the width, are looked at; those behind it are carried along.
    What is 0 up to the width is left out.
    """
    found = []
    for row in rows:
        found = _with_row(found, row, width)
    return found


def left_over(rows, row, width):
    """The row less a sum of multiples of reduced rows; 0 up to the width if it is such a sum."""
    rest = row
    for one in rows:
        at = _first(one, width)
        rest = _less(rest, rest[at] // one[at], one)
    return rest


def parted(rows, row, hints):
    """Numbers and a modulus that show that a row is no sum of multiples of reduced rows.

    The sum of the products of the numbers with those of each sum of multiples is a multiple of the
    modulus, the same sum with the row is not. The hints are integers of which the least such
    modulus may have a divisor.
    """
    order = _order(rows, row)
    modulus = _small_modulus(rows, row, order)
    if modulus == 0:
        pivots = [one[_first(one, len(one))] for one in rows]
        bases = _bases(order, hints + pivots + [order])
        modulus = min([_modulus_of(rows, row, base) for base in bases])
    return _numbers_for(rows, row, modulus), modulus


def _with_row(rows, row, width):
    """The reduced rows of reduced ones and one row more."""
    found = []
    rest = row
    for one in rows:
        at = _first(one, width)
        first = _first(rest, width)
        if first is not None and first < at:
            found.append(_with_sign(rest, first))
            rest = [0] * len(row)
        if first == at:
            joined, rest = _joined(one, rest, at)
            found.append(joined)
        else:
            found.append(one)
    first = _first(rest, width)
    if first is not None:
        found.append(_with_sign(rest, first))
    return _small_above(found, width)


def _small_above(rows, width):
    """The rows, each less multiples of later ones, as reduced ones have to be."""
    found = []
    for row in rows[::-1]:
        found = [left_over(found, row, width)] + found
    return found


def _joined(one, other, at):
    """Two rows with the same sums; the first one has the greatest divisor at the index, the second one 0."""
    divisor, times_one, times_other = divisor_and_times(one[at], other[at])
    joined = [times_one * x + times_other * y for x, y in zip(one, other)]
    many = one[at] // divisor
    other_many = other[at] // divisor
    return joined, [many * y - other_many * x for x, y in zip(one, other)]


def divisor_and_times(one, other):
    """The greatest common divisor, and how many of the two numbers it is together; the first one is above 0."""
    if other % one == 0:
        return one, 1, 0
    high, low = one, other
    ways, low_ways = (1, 0), (0, 1)
    while low != 0:
        many = high // low
        high, low = low, high - many * low
        ways, low_ways = low_ways, (ways[0] - many * low_ways[0], ways[1] - many * low_ways[1])
    if high < 0:
        return -high, -ways[0], -ways[1]
    return high, ways[0], ways[1]


def _less(row, many, other):
    if many == 0:
        return row
    return [x - many * y for x, y in zip(row, other)]


def _first(row, width):
    """The index of the first number that is not 0, or None."""
    for index in range(width):
        if row[index] != 0:
            return index
    return None


def _with_sign(row, first):
    return row if row[first] > 0 else [-number for number in row]


def _order(rows, row):
    """The least number, at least 1, by which times the row is a sum of multiples; 0 if none is."""
    order = 1
    rest = row
    for one in rows:
        at = _first(one, len(one))
        many = one[at] // gcd(one[at], rest[at])
        order = order * many
        rest = [many * number for number in rest]
        rest = _less(rest, rest[at] // one[at], one)
    return 0 if any(rest) else order


def _small_modulus(rows, row, order):
    """The least small modulus that parts the row from the sums, or 0; one is found if the order is 0."""
    modulus = 2
    while order == 0 or modulus <= _SMALL:
        if gcd(order, modulus) > 1 and _is_prime_power(modulus) and not _is_within(rows, row, modulus):
            return modulus
        modulus = modulus + 1
    return 0


def _least_prime(number):
    """The least prime that divides a number of at least 2."""
    prime = 2
    while number % prime != 0:
        prime = prime + 1
    return prime


def _is_prime_power(number):
    return _without_prime(number, _least_prime(number)) == 1


def _without_prime(number, prime):
    rest = number
    while rest % prime == 0:
        rest = rest // prime
    return rest


def _bases(order, numbers):
    """Divisors of the order, greater than 1: the small primes, and what others have in common with it."""
    small = [prime for prime in range(2, _SMALL + 1) if order % prime == 0 and _least_prime(prime) == prime]
    rest = order
    for prime in small:
        rest = _without_prime(rest, prime)
    found = {gcd(rest, number): True for number in numbers}
    return small + [base for base in found if base > 1]


def _modulus_of(rows, row, base):
    """The least power of a base that parts the row from the sums."""
    powers = [base]
    while _is_within(rows, row, powers[-1]):
        powers.append(powers[-1] * powers[-1])
    # The greatest power that does not is put together of these squares.
    found = 1
    for power in powers[-2::-1]:
        if _is_within(rows, row, found * power):
            found = found * power
    return found * base


def _is_within(rows, row, modulus):
    """Whether the row is a sum of multiples of the rows, up to multiples of the modulus."""
    return not any(left_over(_with_multiples(rows, len(row), modulus), row, len(row)))


def _with_multiples(rows, width, modulus):
    """The reduced rows that have the sums of the rows and all multiples of the modulus."""
    found = [[0] * index + [modulus] + [0] * (width - 1 - index) for index in range(width)]
    for row in rows:
        found = _with_row(found, [number % modulus for number in row], width)
    return found


def _numbers_for(rows, row, modulus):
    """The numbers that belong to a modulus that parts the row from the sums."""
    width = len(row)
    full = _with_multiples(rows, width, modulus)
    # Here each index has a pivot. The first index at which the row has no multiple of it is looked
    # for; then the numbers are solved from there back, so that all products but one are 0.
    rest = row
    start = 0
    while rest[start] % full[start][start] == 0:
        rest = _less(rest, rest[start] // full[start][start], full[start])
        start = start + 1
    numbers = [0] * width
    numbers[start] = modulus // full[start][start]
    for index in range(start - 1, -1, -1):
        total = sum([x * y for x, y in zip(full[index][index + 1:], numbers[index + 1:])])
        numbers[index] = -total // full[index][index] % modulus
    return tuple(numbers)
