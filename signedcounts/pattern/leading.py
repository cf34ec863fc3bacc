"""Leading patterns, and all patterns in order."""

from signedcounts.base.names import MAX_PATTERN
from signedcounts.base.names import check_depth
from signedcounts.base.names import check_letters
from signedcounts.base.names import check_number
from signedcounts.base.names import check_pattern
from signedcounts.base.names import is_pattern
from signedcounts.errors import InvalidOperation


def is_leading(letters, value):
    """Whether the value is a leading pattern of these letters."""
    return is_pattern(letters, value) and _leads(value)


def factors(letters, pattern):
    """The leading patterns, none less than the next one, of which the pattern is put together."""
    check_pattern(letters, pattern)
    return tuple(_factors(pattern))


def halves(letters, pattern):
    """The halves of a leading pattern of at least two letters."""
    check_pattern(letters, pattern)
    if len(pattern) < 2 or not _leads(pattern):
        raise InvalidOperation("only a leading pattern of at least two letters has halves")
    return halves_of(pattern)


def patterns_of(letters, depth):
    """All patterns, in order, that are not empty and have at most so many letters."""
    check_letters(letters)
    check_depth(depth)
    found = []
    longest = [""]
    for _ in range(depth):
        longest = [pattern + letter for pattern in longest for letter in letters]
        found.extend(longest)
    return tuple(found)


def leading_of(letters, depth):
    """All leading patterns, in order, of at most so many letters."""
    return tuple([pattern for pattern in patterns_of(letters, depth) if _leads(pattern)])


def how_many(letters, size):
    """The number of leading patterns with just so many letters."""
    check_letters(letters)
    check_number(size, 1, MAX_PATTERN)
    divisors = [number for number in range(1, size + 1) if size % number == 0]
    return sum([_mark(number) * _power(len(letters), size // number) for number in divisors]) // size


def halves_of(pattern):
    """The halves of a pattern that is known to be a leading one of at least two letters."""
    # The last factor of a pattern is its longest end that is leading.
    end = _factors(pattern[1:])[-1]
    return pattern[:len(pattern) - len(end)], end


def _leads(pattern):
    return pattern != "" and all([pattern < pattern[start:] for start in range(1, len(pattern))])


def _factors(pattern):
    """The factors, found in one pass.

    From `start` on, what has been passed is one leading pattern over and over and a beginning of
    it; `kept` is the place that the next letter is compared with, one such pattern back.
    """
    found = []
    start = 0
    while start < len(pattern):
        kept = start
        ahead = start + 1
        while ahead < len(pattern) and pattern[kept] <= pattern[ahead]:
            kept = kept + 1 if pattern[kept] == pattern[ahead] else start
            ahead = ahead + 1
        size = ahead - kept
        while start <= kept:
            found.append(pattern[start:start + size])
            start = start + size
    return found


def _mark(number):
    """0 if the square of a prime divides the number, otherwise 1 or -1 for an even or odd number of primes."""
    left = number
    mark = 1
    prime = 2
    while left > 1:
        if left % prime == 0:
            left = left // prime
            mark = -mark
            if left % prime == 0:
                return 0
        prime = prime + 1
    return mark


def _power(number, size):
    power = 1
    for _ in range(size):
        power = power * number
    return power
