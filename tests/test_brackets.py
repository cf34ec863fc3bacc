"""Points 0.12, 0.14, 0.17 and stage 8: brackets and exponents."""

import itertools
import random
import unittest

from signedcounts.base.names import is_letters, is_pattern
from signedcounts.count.counts import count
from signedcounts.errors import (
    InvalidLetters, InvalidNumber, InvalidOperation, InvalidPattern, InvalidTable, NotTrue,
)
from signedcounts.pattern.leading import halves, is_leading, leading_of
from signedcounts.table.brackets import (
    bracket_of, by_exponents, by_leading, exponents, leading_values, word_of,
)
from signedcounts.table.tables import Table
from signedcounts.table.truth import first_fault, is_true, mended
from signedcounts.word.words import Word
from checks import Arguments, Kind
from values import (
    FAR, LONG, LONGEST, ODD, SLY, SWAP, TOO_LONG, TWO, all_but, is_table, some_tables, some_words, within,
)

LETTERS = Kind(InvalidLetters, is_letters, ["ab"], ["ba", "aa"])
PATTERN = Kind(InvalidPattern, lambda value: is_pattern("ab", value), ["ab"], ["A", "c", "ab" * 201])
DEPTH = Kind(InvalidNumber, within(1, 5), [2], [0, 6])
NUMBERS = Kind(
    InvalidOperation, lambda value: False, [(1, 2, 3)],
    [(1, 2), (1, 2, 3, 4), [1, 2, 3], (1, 2, True), (1, TOO_LONG, 1), (1, None, 2), ((1, 2, 3),), "123", ()],
)
TABLE = Kind(InvalidTable, is_table, [Table.of(SWAP, 3)])


def slow_bracket(letters, pattern):
    if len(pattern) == 1:
        return Word.of(letters, pattern)
    one, other = halves(letters, pattern)
    return slow_bracket(letters, one).bracket(slow_bracket(letters, other))


def some_numbers(many, seed, most):
    source = random.Random(seed)
    return tuple(source.randint(-most, most) for _ in range(many))


class Examples(unittest.TestCase):
    def test_first(self):
        told = [
            bracket_of("ab", "aab").shortest(), bracket_of("ab", "abb").shortest(),
            exponents(Table.of(Word.of("ab", "ba"), 3)), exponents(Table.of(SWAP, 3)), leading_values(Table.of(SWAP, 3)),
        ]
        self.assertEqual(told, ["aabABAbaBA", "abAbaBAB", (1, 1, -1, 1, -1), (0, 0, 1, 0, 0), (0, 0, 1, 0, -1)])

    def test_second(self):
        told = [
            by_leading("ab", 2, (1, 1, 0)).entries, by_exponents("ab", 2, (0, 0, 1)) == Table.of(SWAP, 2),
            word_of(Table.of(Word.of("ab", "ba"), 2)).shortest(), word_of(Table.of(FAR, 1)) == FAR,
            by_leading("a", 3, (-1,)).entries,
        ]
        self.assertEqual(told, [(1, 1, 0, 0, 1, 0), True, "abbaBA", True, (-1, 1, -1)])

    def test_third(self):
        with self.assertRaises(NotTrue) as caught:
            exponents(ODD)
        self.assertEqual([caught.exception.one, caught.exception.other], ["a", "b"])


class Brackets(unittest.TestCase):
    def test_by_the_definition(self):
        for letters in ("a", "ab", "xyz"):
            for pattern in leading_of(letters, 5):
                self.assertEqual(bracket_of(letters, pattern), slow_bracket(letters, pattern))
        for pattern in ("aaaaab", "ababb" + "b", "aababb", "aabbab" + "b"):
            self.assertEqual(bracket_of("ab", pattern), slow_bracket("ab", pattern))

    def test_counts_of_a_bracket(self):
        for letters in ("ab", "abc"):
            for pattern in leading_of(letters, 5)[::3]:
                bracket = bracket_of(letters, pattern)
                for other in leading_of(letters, len(pattern)):
                    if len(other) < len(pattern) or other < pattern:
                        self.assertEqual(count(bracket, other), 0)
                self.assertEqual(count(bracket, pattern), 1)

    def test_patterns_that_are_not_leading(self):
        for pattern in ("", "aa", "ba", "abab", "aba", "b" * 400, "b" + "a" * 399, "ab" * 200):
            with self.assertRaises(InvalidOperation):
                bracket_of("ab", pattern)

    def test_more_than_200_runs(self):
        for pattern in ("a" * 399 + "b", "a" + "b" * 399, "a" * 20 + "b", "aabab" * 60 + "abb", "a" * 200 + "b" * 200):
            self.assertIs(is_leading("ab", pattern), True)
            with self.assertRaises(OverflowError) as caught:
                bracket_of("ab", pattern)
            self.assertEqual(caught.exception.limit, 200)

    def test_the_longest_ones(self):
        # Each half is a bracket, too; the first one that has too many runs is refused.
        for pattern in ("a" * size + "b" for size in range(1, 12)):
            try:
                wanted = slow_bracket("ab", pattern)
            except OverflowError:
                self.assertRaises(OverflowError, bracket_of, "ab", pattern)
            else:
                self.assertEqual(bracket_of("ab", pattern), wanted)

    def test_brackets_do_not_show_at_five_letters(self):
        word = bracket_of("ab", "aaaaab")
        self.assertEqual([Table.of(word, 5), len(word) > 0], [Table.unit("ab", 5), True])
        self.assertEqual(count(word, "aaaaab"), 1)


class Exponents(unittest.TestCase):
    def test_there_and_back(self):
        for letters, depth in (("a", 5), ("ab", 1), ("ab", 3), ("ab", 5), ("abc", 2), ("abc", 4), ("xyz", 5)):
            many = len(leading_of(letters, depth))
            for seed, most in ((1, 1), (2, 5), (3, 10 ** 30), (4, LONGEST)):
                numbers = some_numbers(many, seed, most)
                table = by_exponents(letters, depth, numbers)
                self.assertEqual([table.letters, table.depth, exponents(table)], [letters, depth, numbers])
                self.assertIs(is_true(table), True)

    def test_product_of_brackets(self):
        for letters, depth in (("a", 3), ("ab", 4), ("abc", 3)):
            leading = leading_of(letters, depth)
            numbers = some_numbers(len(leading), 5, 3)
            table = Table.unit(letters, depth)
            for pattern, number in zip(leading, numbers):
                table = table * Table.of(bracket_of(letters, pattern), depth).power(number)
            self.assertEqual([by_exponents(letters, depth, numbers), exponents(table)], [table, numbers])

    def test_true_tables_and_back(self):
        for word in some_words("ab", 8, 1) + some_words("abc", 4, 2) + [SWAP, FAR]:
            for depth in (1, 2, 4):
                table = Table.of(word, depth)
                self.assertEqual(by_exponents(word.letters, depth, exponents(table)), table)

    def test_long_exponents_are_told(self):
        table = Table.of(LONG, 5)
        self.assertEqual(exponents(table)[:2], (3, -LONGEST))
        self.assertGreater(max(abs(number) for number in exponents(table)), LONGEST)

    def test_tables_that_are_not_true(self):
        for table in [ODD, SLY] + some_tables("ab", 3, 5, 3) + some_tables("abc", 2, 3, 4):
            for call in (exponents, word_of):
                with self.assertRaises(NotTrue) as caught:
                    call(table)
                self.assertEqual((caught.exception.one, caught.exception.other), first_fault(table))


class Leading(unittest.TestCase):
    def test_any_integers(self):
        for letters, depth in (("a", 5), ("ab", 1), ("ab", 3), ("ab", 5), ("abc", 2), ("abc", 4), ("xyz", 5)):
            many = len(leading_of(letters, depth))
            for seed, most in ((6, 1), (7, 5), (8, 10 ** 30), (9, LONGEST)):
                numbers = some_numbers(many, seed, most)
                table = by_leading(letters, depth, numbers)
                self.assertEqual([table.letters, table.depth, leading_values(table)], [letters, depth, numbers])
                self.assertIs(is_true(table), True)
                self.assertEqual(mended(table), table)

    def test_values_of_any_table(self):
        for table in some_tables("ab", 4, 4, 10) + some_tables("abc", 3, 2, 11) + [ODD, SLY, Table.of(LONG, 3)]:
            told = tuple(table[pattern] for pattern in leading_of(table.letters, table.depth))
            self.assertEqual(leading_values(table), told)

    def test_two_tables_with_the_same_entries_elsewhere(self):
        # Entries at the patterns that are not leading do not tell a true table.
        one, other = Table("ab", 1, (1, 0)), Table("ab", 1, (2, 0))
        self.assertEqual([is_true(one), is_true(other), one == other], [True, True, False])


class Words(unittest.TestCase):
    def test_tables_of_the_words(self):
        for word in some_words("ab", 10, 12, most=4, exponents=(-1, 1)) + some_words("abc", 4, 13, most=3):
            for depth in (1, 2, 3):
                table = Table.of(word, depth)
                try:
                    told = word_of(table)
                except OverflowError as error:
                    self.assertEqual(error.limit, 200)
                else:
                    self.assertEqual([Table.of(told, depth), told.letters], [table, word.letters])

    def test_product_of_powers(self):
        for letters, depth in (("ab", 3), ("abc", 2), ("ab", 4)):
            for seed in range(6):
                numbers = some_numbers(len(leading_of(letters, depth)), seed, 1)
                text = ""
                for pattern, number in zip(leading_of(letters, depth), numbers):
                    bracket = bracket_of(letters, pattern)
                    text += bracket.shortest() * number if number > 0 else (~bracket).shortest() * -number
                table = by_exponents(letters, depth, numbers)
                try:
                    wanted = Word.of(letters, text)
                except OverflowError:
                    self.assertRaises(OverflowError, word_of, table)
                else:
                    self.assertEqual(word_of(table), wanted)

    def test_far_exponents_of_letters(self):
        for numbers in ((10 ** 30, -10 ** 30, 0), (LONGEST, 1, 49), (0, -LONGEST, -49)):
            table = by_exponents("ab", 2, numbers)
            word = Word("ab", (("a", numbers[0]), ("b", numbers[1])))
            self.assertEqual(word_of(table), word * SWAP.power(numbers[2]))
        long = Table("ab", 1, (LONGEST, 1)) * Table("ab", 1, (1, 0))
        self.assertEqual(word_of(long).runs, (("a", TOO_LONG), ("b", 1)))
        self.assertEqual(word_of(Table.unit("abc", 5)), Word("abc", ()))

    def test_too_many_runs(self):
        self.assertEqual(len(word_of(by_exponents("ab", 2, (0, 0, 50)))), 200)
        for numbers in ((0, 0, 51), (0, 0, -51), (0, 0, 10 ** 30), (5, -2, -LONGEST), (LONGEST, 0, 30000)):
            with self.assertRaises(OverflowError) as caught:
                word_of(by_exponents("ab", 2, numbers))
            self.assertEqual(caught.exception.limit, 200)
        self.assertRaises(OverflowError, word_of, Table.of(LONG, 5))
        self.assertRaises(OverflowError, word_of, Table.of(FAR, 2).power(-1))

    def test_runs_that_are_put_together_do_not_count(self):
        # The power of the bracket has 200 runs; the letters ahead of it are put together with its first one.
        word = word_of(by_exponents("ab", 2, (3, 0, 50)))
        self.assertEqual([len(word), word.runs[0]], [200, ("a", 4)])
        self.assertEqual(len(word_of(by_exponents("ab", 2, (-1, 0, 50)))), 199)
        self.assertEqual(len(word_of(by_exponents("ab", 2, (0, -1, -50)))), 199)


class Wrong(Arguments):
    def test_arguments(self):
        self.check(bracket_of, LETTERS, PATTERN)
        self.check(by_exponents, LETTERS, DEPTH, NUMBERS)
        self.check(by_leading, LETTERS, DEPTH, NUMBERS)
        for call in (exponents, leading_values, word_of):
            self.check(call, TABLE)

    def test_brackets_behind_wrong_arguments(self):
        for pattern in ("", "ba", "a" * 399 + "b"):
            self.refused(InvalidLetters, bracket_of, "ba", pattern)
        self.refused(InvalidPattern, bracket_of, "ab", "b" * 401)
        self.refused(InvalidOperation, bracket_of, "ab", "b" + "a" * 399)

    def test_integers_of_201_digits(self):
        for call in (by_exponents, by_leading):
            for number in (TOO_LONG, -TOO_LONG, True, None, "1"):
                for at, depth in itertools.product(range(3), (2,)):
                    numbers = [1, 2, 3]
                    numbers[at] = number
                    self.refused(InvalidOperation, call, "ab", depth, tuple(numbers))
            self.assertEqual(call("ab", 1, (LONGEST, -LONGEST)).entries, (LONGEST, -LONGEST))

    def test_no_tuples(self):
        for call in (by_exponents, by_leading):
            for numbers in all_but(lambda value: value == (1,)):
                self.refused(InvalidOperation, call, "a", 4, numbers)
            self.assertEqual(call("a", 4, (2,)), Table.of(Word.of("a", "aa"), 4))

    def test_a_table_that_is_not_true_ahead_of_too_many(self):
        table = by_exponents("ab", 2, (0, 0, 10 ** 30)).with_entry("bb", 1)
        error = self.refused(NotTrue, word_of, table)
        self.assertEqual((error.one, error.other), ("b", "b"))
        self.assertEqual(leading_values(Table.of(TWO, 2)), (2, 1, 2))
