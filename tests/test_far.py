"""Stage 10: powers of any size."""

import itertools
import math
import unittest

from signedcounts.base.names import is_integer, is_pattern
from signedcounts.count.counts import count
from signedcounts.errors import InvalidNumber, InvalidOperation, InvalidPattern, InvalidTable, InvalidWord
from signedcounts.pattern.leading import patterns_of
from signedcounts.power import far
from signedcounts.power.far import exponent, far_count, growth, moments
from signedcounts.table.tables import Table
from signedcounts.word.words import Word
from checks import Arguments, Kind
from values import (
    EMPTY, FAR, LONG, LONGEST, ODD, SLY, SWAP, TOO_LONG, TWO, all_but, alternating, is_table, is_word, some_tables,
    some_words,
)

WORD = Kind(InvalidWord, is_word, [SWAP])
TABLE = Kind(InvalidTable, is_table, [Table.of(TWO, 3)])
NUMBER = Kind(InvalidNumber, is_integer, [5])
PATTERN = Kind(InvalidPattern, lambda value: is_pattern("ab", value), ["ab"], ["A", "c", "ab" * 201])
PLACE = Kind(
    InvalidPattern, lambda value: is_pattern("ab", value) and 1 <= len(value) <= 3, ["ab"], ["", "aaaa", "A", "c"],
)


def ways(number, size):
    return math.prod(number - at for at in range(size)) // math.factorial(size)


def tables():
    told = [ODD, SLY, Table.of(SWAP, 4), Table.of(TWO, 5), Table.of(FAR, 3), Table.unit("ab", 2), Table.of(LONG, 3)]
    return told + some_tables("ab", 3, 4, 1) + some_tables("abc", 3, 2, 2) + some_tables("a", 5, 4, 3)


class Examples(unittest.TestCase):
    def test_first(self):
        told = [
            growth(Table.of(TWO, 2), "ab"), growth(Table.of(SWAP, 2), "ab"), growth(Table.of(SWAP, 2), "aa"),
            moments(Table.of(TWO, 2), "ab", 6), moments(Table.of(TWO, 2), "ab", 5),
            moments(Table.of(SWAP, 2), "aa", 0),
        ]
        self.assertEqual(told, [(2, 2), (1,), (), (-3, 2), (), None])

    def test_second(self):
        two = Table.of(TWO, 2)
        told = [
            exponent(two, two.power(-7)), exponent(two, Table.unit("ab", 2)), exponent(two, Table.of(SWAP, 2)),
            far_count(TWO, 10 ** 20, "ab") == 10 ** 40 + 10 ** 20, far_count(TWO, -1, "aa"),
        ]
        self.assertEqual(told, [-7, 0, None, True, 3])

    def test_constant(self):
        self.assertEqual(far.MAX_FAR, 30)


class Growth(unittest.TestCase):
    def test_by_the_definition(self):
        # The sum of C(n, j) c(j) for n = 0, 1, 2 .. tells each c(j) from those ahead of it.
        for table in tables():
            for pattern in patterns_of(table.letters, table.depth):
                values = [table.power(number)[pattern] for number in range(1, len(pattern) + 1)]
                found = []
                for number, value in enumerate(values, 1):
                    found.append(value - sum(ways(number, size) * part for size, part in enumerate(found, 1)))
                while found and found[-1] == 0:
                    found.pop()
                self.assertEqual(growth(table, pattern), tuple(found))

    def test_powers(self):
        for table in tables():
            for pattern in patterns_of(table.letters, table.depth)[::4]:
                parts = growth(table, pattern)
                for number in (0, 1, -1, 12, 10 ** 30, -LONGEST):
                    total = sum(ways(number, size) * part for size, part in enumerate(parts, 1))
                    self.assertEqual(table.power(number)[pattern], total)

    def test_zeros_at_the_end_only(self):
        # N has 0 at aab, and so have its powers but the second one.
        table = Table.unit("ab", 3).with_entry("a", 1).with_entry("ab", 1)
        self.assertEqual([growth(table, "aab"), growth(table, "ab"), growth(table, "b")], [(0, 1), (1,), ()])
        self.assertEqual([growth(table, "aaa"), growth(table, "aba")], [(0, 0, 1), (0, 1)])


class Moments(unittest.TestCase):
    def test_by_trying(self):
        for table in tables():
            for pattern in patterns_of(table.letters, table.depth)[::3]:
                powers = {number: table.power(number)[pattern] for number in range(-12, 13)}
                for value in {powers[number] for number in (-9, -4, -1, 0, 1, 2, 5)} | {0, 1, -1, 7}:
                    if not is_integer(value):
                        continue
                    told = moments(table, pattern, value)
                    if told is None:
                        self.assertEqual([growth(table, pattern), value], [(), 0])
                    else:
                        near = tuple(number for number in told if abs(number) <= 12)
                        self.assertEqual(near, tuple(number for number in powers if powers[number] == value))
                        for number in told:
                            self.assertEqual(table.power(number)[pattern], value)

    def from_values(self, values):
        """A table of one letter whose powers have these values at the longest pattern, at 0, 1, 2 .."""
        steps, parts = list(values), []
        while steps:
            parts.append(steps[0])
            steps = [other - one for one, other in zip(steps, steps[1:])]
        self.assertEqual(parts[0], 0)
        return parts[1:]

    def test_many_answers(self):
        # The entries at aa and ab are free, the letters grow by one: c(1) is free, c(2) is 1.
        table = Table("a", 2, (1, -3))
        self.assertEqual(growth(table, "aa"), (-3, 1))
        self.assertEqual([moments(table, "aa", 0), moments(table, "aa", -3), moments(table, "aa", -6)],
                         [(0, 7), (1, 6), (3, 4)])
        self.assertEqual([moments(table, "aa", -7), moments(table, "aa", -5), moments(table, "aa", 4)],
                         [(), (2, 5), (-1, 8)])

    def test_three_answers_and_more(self):
        found = 0
        for entries in itertools.product(range(-3, 4), repeat=3):
            table = Table("a", 3, (1,) + entries[:2]) if entries[2] == 0 else Table("ab", 3, (
                1, entries[2], 0, entries[0], 0, 0, 0, 0, entries[1], 0, 0, 0, 0, 0))
            pattern = "aaa" if table.letters == "a" else "aba"
            told = moments(table, pattern, 0)
            wanted = [number for number in range(-40, 41) if table.power(number)[pattern] == 0]
            if told is not None:
                self.assertEqual([number for number in told if abs(number) <= 40], wanted)
                found = max(found, len(told))
        self.assertGreaterEqual(found, 3)

    def test_five_letters(self):
        # (n + 2)(n + 1) n (n - 1)(n - 2) is 120 C(n + 2, 5), a sum of C(n, 3), C(n, 4) and C(n, 5).
        table = Table("a", 5, (1, 0, 0, 0, 0))
        self.assertEqual([growth(table, "aaaaa"), moments(table, "aaaaa", 0)], [(0, 0, 0, 0, 1), (0, 1, 2, 3, 4)])
        self.assertEqual(moments(table, "aaaa", 0), (0, 1, 2, 3))
        self.assertEqual([moments(table, "aaaa", 1), moments(table, "aaaa", 5)], [(-1, 4), (-2, 5)])
        self.assertEqual([moments(table, "aaaaa", 1), moments(table, "aaaaa", -1)], [(5,), (-1,)])
        self.assertEqual(moments(table, "aaaaa", ways(-10 ** 30, 5)), (-10 ** 30,))
        self.assertEqual(moments(table, "aaaa", ways(10 ** 30, 4)), (3 - 10 ** 30, 10 ** 30))

    def test_values_that_stay_where_the_growth_is_0(self):
        # C(n, 2) is 0 at both 0 and 1, where one more of n adds nothing.
        table = Table("a", 3, (1, 0, 0))
        self.assertEqual([moments(table, "aa", 0), moments(table, "aaa", 0)], [(0, 1), (0, 1, 2)])
        self.assertEqual([moments(table, "aa", 1), moments(table, "aaa", -1), moments(table, "aaa", 1)],
                         [(-1, 2), (-1,), (3,)])

    def test_answers_of_thirty_digits(self):
        table = Table.of(TWO, 2)
        for number in (10 ** 29 + 7, -10 ** 29 - 9, 10 ** 90, -10 ** 90):
            value = number * number + number
            self.assertEqual(moments(table, "ab", value), tuple(sorted((number, -1 - number))))
            self.assertEqual(moments(table, "ab", value + 1), ())
            self.assertEqual(moments(table, "a", 2 * number), (number,))
            self.assertEqual(moments(table, "a", 2 * number + 1), ())
        roots = (10 ** 30, -10 ** 30)
        table = Table("ab", 2, (1, 1, 0, 0, 0, 0)).with_entry("ab", -10 ** 30)
        for number in roots:
            value = ways(number, 2) - 10 ** 30 * number
            self.assertIn(number, moments(table, "ab", value))

    def test_where_all_is_constant(self):
        for table, pattern in ((Table.of(SWAP, 2), "aa"), (Table.unit("ab", 3), "aba"), (Table.of(SWAP, 3), "b")):
            self.assertIs(moments(table, pattern, 0), None)
            for value in (1, -1, LONGEST):
                self.assertEqual(moments(table, pattern, value), ())

    def test_one_answer(self):
        self.assertEqual(moments(Table.of(SWAP, 2), "ab", -LONGEST), (-LONGEST,))
        self.assertEqual(moments(Table.of(SWAP, 2), "ab", 0), (0,))

    def test_long_entries(self):
        table = Table.of(LONG, 3).power(LONGEST)
        for number in (0, 1, -1):
            value = table.power(number)["ba"]
            if is_integer(value):
                self.assertIn(number, moments(table, "ba", value))


class Exponents(unittest.TestCase):
    def test_powers_are_found(self):
        for table in tables():
            is_unit = table == Table.unit(table.letters, table.depth)
            for number in (0, 1, -1, 2, -9, 10 ** 30, LONGEST, -LONGEST):
                self.assertEqual(exponent(table, table.power(number)), 0 if is_unit else number)

    def test_unit_tables(self):
        unit = Table.unit("ab", 3)
        self.assertEqual([exponent(unit, unit), exponent(unit, Table.of(SWAP, 3))], [0, None])
        self.assertEqual([exponent(Table.of(SWAP, 3), unit), exponent(unit, SLY.cut(3))], [0, 0])

    def test_no_powers(self):
        two = Table.of(TWO, 2)
        self.assertEqual(exponent(two.power(2), two), None)
        self.assertEqual(exponent(two.power(2), two.power(3)), None)
        self.assertEqual(exponent(two, two.power(3).with_entry("bb", 1)), None)
        self.assertEqual(exponent(ODD, two), None)
        self.assertEqual(exponent(Table.of(SWAP, 2), two), None)
        self.assertEqual([exponent(SLY, SLY.power(5)), exponent(SLY, SLY.power(5).with_entry("aaaa", 1))], [5, None])

    def test_longer_ones(self):
        table = Table.of(TWO, 3)
        self.assertEqual(exponent(table, table.power(LONGEST).power(-LONGEST)), -LONGEST ** 2)


class FarCounts(unittest.TestCase):
    def test_small_powers(self):
        for word in some_words("ab", 8, 1, most=4) + some_words("abc", 3, 2, most=4) + [EMPTY, SWAP, FAR]:
            for number in (-4, -1, 0, 1, 2, 5):
                for pattern in ("", "a", "ab", "bba", "aabab", "abababa"):
                    self.assertEqual(far_count(word, number, pattern), count(word.power(number), pattern))

    def test_one_letter(self):
        word = Word("ab", (("a", 7),))
        for number in (0, 1, -1, 10 ** 30, LONGEST, -LONGEST):
            for size in (0, 1, 2, 29, 30):
                self.assertEqual(far_count(word, number, "a" * size), ways(7 * number, size))
            self.assertEqual(far_count(word, number, "ab"), 0)

    def test_exponents_of_two_hundred_digits(self):
        for number in (LONGEST, -LONGEST, 0, 1, -1):
            power = Table.of(LONG, 4).power(number)
            for pattern in ("abba", "a", "bab", "ba"):
                self.assertEqual(far_count(LONG, number, pattern), power[pattern])

    def test_turned_words(self):
        # What turns a word turns its powers.
        word, by = Word.of("ab", "ab"), Word.of("ab", "bA")
        for number in (3, -3, 40):
            self.assertEqual(far_count(word.turned(by), number, "abab" * 3), count(word.power(number).turned(by), "abab" * 3))

    def test_thirty_letters(self):
        pattern = "ab" * 15
        self.assertEqual(far_count(Word.of("ab", "ab"), 15, pattern), 1)
        self.assertEqual(far_count(Word.of("ab", "ab"), 16, pattern), count(Word.of("ab", "ab" * 16), pattern))
        self.assertEqual(far_count(Word.of("ab", "ab"), -1, pattern), count(Word.of("ab", "BA"), pattern))
        full = Word("ab", alternating(200))
        self.assertEqual(far_count(full, 1, pattern), count(full, pattern))
        self.assertEqual(far_count(full, 0, pattern), 0)
        self.assertEqual(far_count(full, 10 ** 30, "a"), 10 ** 32)


class Wrong(Arguments):
    def test_arguments(self):
        self.check(growth, TABLE, PLACE)
        self.check(moments, TABLE, PLACE, NUMBER)
        self.check(exponent, TABLE, TABLE)
        self.check(far_count, WORD, NUMBER, PATTERN)

    def test_patterns_of_tables(self):
        for pattern in ("", "aaa", "c", "A", "a" * 400, None):
            self.refused(InvalidPattern, growth, ODD, pattern)
            self.refused(InvalidPattern, moments, ODD, pattern, None)
        for value in all_but(is_integer):
            self.refused_number(lambda passed: moments(ODD, "ab", passed), value)
            self.refused_number(lambda passed: moments(Table.unit("ab", 1), "a", passed), value)

    def test_unlike_tables(self):
        for other in (Table.unit("a", 3), Table.unit("ab", 2), Table.unit("abc", 3), Table.unit("xy", 3)):
            self.refused(InvalidOperation, exponent, Table.of(TWO, 3), other)
            self.refused(InvalidOperation, exponent, other, Table.of(TWO, 3))

    def test_more_than_thirty_letters(self):
        for pattern in ("a" * 31, "ab" * 16, "b" * 400):
            self.refused_many(30, far_count, TWO, 5, pattern)
            self.refused_many(30, far_count, EMPTY, 0, pattern)

    def test_wrong_arguments_ahead_of_more_than_thirty_letters(self):
        self.refused_number(lambda value: far_count(TWO, value, "a" * 31), TOO_LONG)
        self.refused_number(lambda value: far_count(TWO, value, "a" * 31), True)
        self.refused(InvalidWord, far_count, ODD, 5, "a" * 31)
        self.refused(InvalidPattern, far_count, TWO, 5, "a" * 401)
        self.refused(InvalidPattern, far_count, TWO, 5, "a" * 30 + "c")
