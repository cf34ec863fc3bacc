"""Points 0.7 and 0.12 and stage 3: leading patterns, and patterns in order."""

import itertools
import random
import unittest

from signedcounts.base.names import is_letters, is_pattern
from signedcounts.errors import InvalidLetters, InvalidNumber, InvalidOperation, InvalidPattern
from signedcounts.pattern.leading import factors, halves, how_many, is_leading, leading_of, patterns_of
from checks import Arguments, Kind
from values import all_but, all_kinds, shown, within

LETTERS = Kind(InvalidLetters, is_letters, ["ab"], ["ba", "aa", "abcd", ""])
PATTERN = Kind(InvalidPattern, lambda value: is_pattern("ab", value), ["ab"], ["abA", "c", "ab" * 201])
DEPTH = Kind(InvalidNumber, within(1, 5), [2], [0, 6, -1])
SIZE = Kind(InvalidNumber, within(1, 400), [4], [0, 401, -1])


def leads(pattern):
    """Whether the pattern is leading, by the definition."""
    return pattern != "" and all(pattern < pattern[at:] for at in range(1, len(pattern)))


def all_patterns(letters, size):
    return ["".join(signs) for signs in itertools.product(letters, repeat=size)]


def long_patterns():
    source = random.Random(3)
    told = ["".join(source.choice(letters) for _ in range(400)) for letters in ("ab", "aab", "abb", "abc") * 5]
    return told + ["a" * 399 + "b", "a" * 400, "ab" * 200, "a" + "b" * 399, "b" + "a" * 399, "aab" * 133 + "b"]


class Examples(unittest.TestCase):
    def test_first(self):
        told = [
            is_leading("ab", "aab"), is_leading("ab", "aa"), is_leading("ab", "abab"), is_leading("ab", ""),
            factors("ab", "babaab"), factors("ab", "abab"), halves("ab", "aabb"), halves("ab", "aabab"),
        ]
        self.assertEqual(told, [
            True, False, False, False, ("b", "ab", "aab"), ("ab", "ab"), ("a", "abb"), ("aab", "ab"),
        ])

    def test_second(self):
        told = [
            leading_of("ab", 4), len(patterns_of("ab", 3)), [how_many("ab", size) for size in (1, 2, 3, 4, 5)],
            how_many("abc", 5), how_many("a", 7),
        ]
        self.assertEqual(told, [
            ("a", "b", "ab", "aab", "abb", "aaab", "aabb", "abbb"), 14, [2, 1, 2, 3, 6], 48, 0,
        ])


class Leading(unittest.TestCase):
    def test_all_short_patterns(self):
        for letters in ("a", "ab", "xyz"):
            for size in range(7):
                for pattern in all_patterns(letters, size):
                    self.assertIs(is_leading(letters, pattern), leads(pattern))

    def test_patterns_of_400_letters(self):
        for pattern in long_patterns():
            self.assertIs(is_leading("abc", pattern), leads(pattern))
        for pattern, told in (("a" * 399 + "b", True), ("a" * 400, False), ("a" + "b" * 399, True), ("ab" * 200, False),
                              ("a" * 400 + "b", False), ("a" + "b" * 400, False)):
            self.assertIs(is_leading("ab", pattern), told)

    def test_other_values(self):
        for value in all_but(lambda value: is_pattern("ab", value)) + ["A", "aB", "ac", "c", "", ["a"], ("a",)]:
            self.assertIs(is_leading("ab", value), False)

    def test_letters_are_checked(self):
        for letters in all_but(is_letters):
            for value in ("a", None, 1, letters):
                self.assertRaises(InvalidLetters, is_leading, letters, value)

    def test_every_value_is_left_as_it_is(self):
        for value in all_kinds():
            before = shown(value)
            told = is_leading("ab", value)
            self.assertIn(repr(told), ("True", "False"))
            self.assertIs(told, is_leading("ab", value))
            self.assertEqual(shown(value), before)


class Factors(unittest.TestCase):
    def check(self, letters, pattern):
        told = factors(letters, pattern)
        self.assertIs(told.__class__, tuple)
        self.assertEqual("".join(told), pattern)
        self.assertTrue(all(leads(part) for part in told))
        self.assertTrue(all(one >= other for one, other in zip(told, told[1:])))

    def test_short_patterns(self):
        for letters in ("a", "ab", "bxz"):
            for size in range(7):
                for pattern in all_patterns(letters, size):
                    self.check(letters, pattern)

    def test_long_patterns(self):
        for pattern in long_patterns():
            self.check("abc", pattern)
        self.assertEqual(factors("ab", "a" * 400), ("a",) * 400)
        self.assertEqual(factors("ab", "ab" * 200), ("ab",) * 200)
        self.assertEqual(factors("ab", "a" * 399 + "b"), ("a" * 399 + "b",))

    def test_empty_pattern(self):
        self.assertEqual(factors("ab", ""), ())


class Halves(unittest.TestCase):
    def test_by_the_definition(self):
        for letters in ("ab", "abc"):
            for size in range(2, 8):
                for pattern in all_patterns(letters, size):
                    if leads(pattern):
                        end = next(pattern[at:] for at in range(1, size) if leads(pattern[at:]))
                        self.assertEqual(halves(letters, pattern), (pattern[:size - len(end)], end))
                        self.assertTrue(leads(pattern[:size - len(end)]))

    def test_long_patterns(self):
        self.assertEqual(halves("ab", "a" * 399 + "b"), ("a", "a" * 398 + "b"))
        self.assertEqual(halves("ab", "a" + "b" * 399), ("a" + "b" * 398, "b"))
        for pattern in long_patterns():
            if leads(pattern):
                end = next(pattern[at:] for at in range(1, 400) if leads(pattern[at:]))
                self.assertEqual(halves("abc", pattern), (pattern[:400 - len(end)], end))


class Order(unittest.TestCase):
    def test_patterns(self):
        self.assertEqual(patterns_of("ab", 2), ("a", "b", "aa", "ab", "ba", "bb"))
        for letters in ("a", "z", "ab", "bx", "abc", "ghz"):
            for depth in (1, 2, 3, 4, 5):
                told = [pattern for size in range(1, depth + 1) for pattern in all_patterns(letters, size)]
                self.assertEqual(patterns_of(letters, depth), tuple(told))
                self.assertEqual(told, sorted(told, key=lambda pattern: (len(pattern), pattern)))

    def test_leading_patterns(self):
        for letters in ("a", "z", "ab", "bx", "abc", "ghz"):
            for depth in (1, 2, 3, 4, 5):
                told = leading_of(letters, depth)
                self.assertEqual(told, tuple(filter(leads, patterns_of(letters, depth))))
                many = [len([pattern for pattern in told if len(pattern) == size]) for size in range(1, depth + 1)]
                self.assertEqual(many, [how_many(letters, size) for size in range(1, depth + 1)])
        self.assertEqual([leading_of("a", 5), leading_of("abc", 1)], [("a",), ("a", "b", "c")])
        self.assertEqual([len(patterns_of("abc", 5)), len(leading_of("abc", 5))], [363, 80])


class HowMany(unittest.TestCase):
    def test_each_pattern_has_its_factors(self):
        # The patterns of each size are the products of powers of factors; so the numbers tell those of all patterns.
        for many, letters in ((1, "a"), (2, "ab"), (3, "abc")):
            ways = [1] + [0] * 40
            for size in range(1, 41):
                for _ in range(how_many(letters, size) if size <= 12 else 0):
                    for at in range(size, 41):
                        ways[at] += ways[at - size]
                if size <= 12:
                    self.assertEqual(ways[size], many ** size)

    def test_squares_of_primes_and_greatest_sizes(self):
        # A pattern that is no power of another one has just as many turned ones as letters.
        for letters in ("a", "ab", "abc"):
            whole = {}
            for size in range(1, 401):
                whole[size] = len(letters) ** size - sum(whole[part] for part in range(1, size) if size % part == 0)
                self.assertEqual(how_many(letters, size) * size, whole[size])

    def test_some(self):
        told = [how_many("ab", size) for size in (4, 8, 9, 12, 18, 25, 36)]
        self.assertEqual(told, [3, 30, 56, 335, 14532, 1342176, 1908866960])
        self.assertEqual([how_many("a", size) for size in (1, 2, 4, 400)], [1, 0, 0, 0])


class Wrong(Arguments):
    def test_arguments(self):
        self.check(factors, LETTERS, PATTERN)
        self.check(halves, LETTERS, PATTERN)
        self.check(patterns_of, LETTERS, DEPTH)
        self.check(leading_of, LETTERS, DEPTH)
        self.check(how_many, LETTERS, SIZE)

    def test_halves_of_others(self):
        for pattern in ("", "a", "b", "ba", "aa", "abab", "aba", "a" * 400, "b" + "a" * 399):
            self.refused(InvalidOperation, halves, "ab", pattern)

    def test_halves_behind_wrong_arguments(self):
        for pattern in ("", "a", "ba", "a" * 400):
            self.refused(InvalidLetters, halves, "ba", pattern)
        for pattern in ("A", "c", "ca", "a" * 401, "b" + "a" * 400):
            self.refused(InvalidPattern, halves, "ab", pattern)

    def test_depths_and_sizes(self):
        for depth in (0, 6, -1, True, False, None, "1", 10 ** 200):
            self.refused_number(lambda value: patterns_of("ab", value), depth)
            self.refused_number(lambda value: leading_of("abc", value), depth)
        for size in (0, 401, -1, True, 10 ** 200, 1 - 10 ** 300):
            self.refused_number(lambda value: how_many("ab", value), size)
