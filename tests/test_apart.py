"""Points 0.15 to 0.17 and stage 9: words that are equal, or parted by a world."""

import itertools
import math
import random
import unittest

from signedcounts.base.names import is_pattern
from signedcounts.count.counts import count
from signedcounts.errors import InvalidNumber, InvalidOperation, InvalidPattern, InvalidWord
from signedcounts.pattern.leading import patterns_of
from signedcounts.table.brackets import bracket_of
from signedcounts.table.tables import Table
from signedcounts.word.apart import first_difference, image, is_parting, level, parting, run_pattern
from signedcounts.word.words import Word
from checks import Arguments, Kind
from values import (
    EMPTY, FAR, LONG, LONGEST, ODD, SWAP, TOO_LONG, TWO, all_kinds, alternating, is_word, shown, some_words, within,
)

WORD = Kind(InvalidWord, is_word, [SWAP])
PATTERN = Kind(InvalidPattern, lambda value: is_pattern("ab", value), ["ab"], ["A", "c", "ab" * 201])
DEPTH = Kind(InvalidNumber, within(1, 5), [2], [0, 6])
MODULUS = Kind(InvalidNumber, within(2, LONGEST), [3], [1, 0, -2, True])
FULL = Word("ab", alternating(200))
# Its counts at all patterns of at most five letters are those of the empty word.
DEEP = bracket_of("ab", "aaaaab")


def slow_image(word, pattern, modulus):
    places = range(len(pattern) + 1)
    return tuple(
        tuple(count(word, pattern[row:column]) % modulus if row <= column else 0 for column in places) for row in places
    )


def matrix_product(one, other, modulus):
    columns = list(zip(*other))
    return tuple(tuple(sum(x * y for x, y in zip(row, column)) % modulus for column in columns) for row in one)


def words():
    return some_words("ab", 12, 1) + [EMPTY, SWAP, TWO, FAR, LONG, ~SWAP, DEEP]


class Examples(unittest.TestCase):
    def test_first(self):
        told = [
            level(SWAP, 5), level(TWO, 3), level(bracket_of("ab", "aab"), 5), level(bracket_of("ab", "aab"), 2),
            first_difference(SWAP, ~SWAP, 3), first_difference(TWO, TWO, 5),
        ]
        self.assertEqual(told, [2, 1, 3, None, "ab", None])

    def test_second(self):
        told = [
            run_pattern(SWAP, Word("ab", ())), run_pattern(FAR, Word("ab", (("b", -2),))) == ("a", 10 ** 30),
            image(SWAP, "ab", 3), image(~TWO, "aa", 5), parting(TWO, TWO), is_parting(SWAP, ~SWAP, ("world", "ab", 2)),
            is_parting(SWAP, ~SWAP, ("world", "ab", 3)),
        ]
        self.assertEqual(told, [
            ("abab", 1), True, ((1, 0, 1), (0, 1, 0), (0, 0, 1)), ((1, 3, 3), (0, 1, 3), (0, 0, 1)), ("equal",), False,
            True,
        ])


class Levels(unittest.TestCase):
    def test_by_the_definition(self):
        told = words() + some_words("abc", 6, 2) + [bracket_of("abc", pattern) for pattern in ("abc", "acb", "aabbc")]
        for word in told:
            for depth in (1, 2, 3, 4, 5):
                sizes = [len(pattern) for pattern in patterns_of(word.letters, depth) if count(word, pattern) != 0]
                self.assertEqual(level(word, depth), min(sizes, default=None))

    def test_edges(self):
        self.assertEqual([level(EMPTY, depth) for depth in (1, 5)], [None, None])
        self.assertEqual([level(SWAP, 1), level(TWO, 1), level(FAR, 5), level(DEEP, 5)], [None, 1, 1, None])
        self.assertEqual(level(Word.of("z", "Z"), 1), 1)
        self.assertEqual(level(bracket_of("ab", "aabab"), 5), 5)


class Differences(unittest.TestCase):
    def test_by_the_definition(self):
        for one, other in itertools.product(words(), words()):
            for depth in (1, 3, 5):
                wanted = [
                    pattern for pattern, x, y in zip(
                        patterns_of("ab", depth), Table.of(one, depth).entries, Table.of(other, depth).entries)
                    if x != y
                ]
                self.assertEqual(first_difference(one, other, depth), wanted[0] if wanted else None)

    def test_edges(self):
        self.assertEqual([first_difference(EMPTY, EMPTY, 1), first_difference(SWAP, EMPTY, 1)], [None, None])
        self.assertEqual([first_difference(SWAP, EMPTY, 2), first_difference(DEEP, EMPTY, 5)], ["ab", None])
        self.assertEqual(first_difference(bracket_of("ab", "aab"), EMPTY, 5), "aab")
        self.assertEqual(first_difference(FAR, FAR * Word.of("ab", "b"), 5), "b")
        # Equal at one and two letters, and not at three.
        self.assertEqual(first_difference(TWO, TWO * bracket_of("ab", "abb"), 3), "abb")


class RunPatterns(unittest.TestCase):
    def test_counts(self):
        for one, other in itertools.product(words(), words()):
            told = run_pattern(one, other)
            if one == other:
                self.assertIs(told, None)
            elif len(one) + len(other) <= 200:
                quotient = one * ~other
                self.assertEqual(told[0], "".join(letter for letter, _ in quotient.runs))
                self.assertEqual(told[1], math.prod(exponent for _, exponent in quotient.runs))
                self.assertEqual(told[1], count(quotient, told[0]))
                self.assertNotEqual(told[1], 0)

    def test_two_hundred_runs_each(self):
        one, other = Word("ab", alternating(200, exponent=3)), Word("ab", alternating(200, "ba", -2))
        self.assertEqual(run_pattern(one, other), ("ab" * 200, 6 ** 200))
        same_end = Word("ab", alternating(200, exponent=-2))
        self.assertEqual(run_pattern(one, same_end), ("ab" * 100 + "a" + "ba" * 99, 3 ** 199 * 5 * 2 ** 199))
        self.assertEqual(run_pattern(one, one), None)
        self.assertEqual(run_pattern(one, ~one), ("ab" * 200, 9 ** 200))
        self.assertEqual(run_pattern(~one, one), ("ba" * 200, 9 ** 200))
        self.assertRaises(OverflowError, lambda: one * ~other)

    def test_some(self):
        self.assertEqual(run_pattern(TWO, Word.of("ab", "ab")), ("a", 1))
        self.assertEqual(run_pattern(EMPTY, TWO), ("ba", 2))
        self.assertEqual(run_pattern(LONG, EMPTY), ("aba", LONGEST * LONGEST * (LONGEST - 3)))
        for value in run_pattern(TWO, EMPTY):
            self.assertIn(value.__class__, (str, int))


class Images(unittest.TestCase):
    def test_by_the_definition(self):
        for word in words() + [FULL, Word("ab", alternating(200, exponent=-1))]:
            for pattern in ("", "a", "ab", "abba", "aaabb", "babaab"):
                for modulus in (2, 3, 12, 10 ** 30, LONGEST):
                    self.assertEqual(image(word, pattern, modulus), slow_image(word, pattern, modulus))
        for word in some_words("abc", 6, 3):
            self.assertEqual(image(word, "cabccc", 5), slow_image(word, "cabccc", 5))

    def test_products(self):
        for one, other in itertools.product(words()[:8], words()[:8]):
            for pattern, modulus in (("abab", 2), ("aabb", 7), ("bba", 10 ** 50)):
                product = matrix_product(image(one, pattern, modulus), image(other, pattern, modulus), modulus)
                self.assertEqual(image(one * other, pattern, modulus), product)

    def test_empty_pattern_and_empty_word(self):
        for word in (EMPTY, SWAP, FAR):
            self.assertEqual(image(word, "", 2), ((1,),))
        self.assertEqual(image(EMPTY, "ab", 2), ((1, 0, 0), (0, 1, 0), (0, 0, 1)))

    def test_kinds(self):
        told = image(FAR, "abb", LONGEST)
        self.assertEqual({row.__class__ for row in told} | {told.__class__}, {tuple})
        self.assertEqual({number.__class__ for row in told for number in row}, {int})
        self.assertTrue(all(0 <= number < LONGEST for row in told for number in row))

    def test_long_patterns(self):
        pattern = "ab" * 200
        told = image(FULL, pattern, 7)
        self.assertEqual([len(told), {len(row) for row in told}], [401, {401}])
        for row, column in ((0, 400), (0, 200), (1, 200), (3, 40), (200, 400), (50, 50), (60, 50)):
            wanted = count(FULL, pattern[row:column]) % 7 if row <= column else 0
            self.assertEqual(told[row][column], wanted)
        told = image(LONG, "a" * 400, LONGEST)
        self.assertEqual([told[0][400], told[100][102], told[399][400]], [0, 3, 3])


class Partings(unittest.TestCase):
    def check(self, one, other):
        told = parting(one, other)
        self.assertIs(is_parting(one, other, told), True)
        if one == other:
            self.assertEqual(told, ("equal",))
            return
        form, pattern, modulus = told
        self.assertEqual(form, "world")
        self.assertTrue(is_pattern(one.letters, pattern))
        self.assertLessEqual(len(pattern), len(one) + len(other))
        self.assertTrue(modulus.__class__ is int and 2 <= modulus < 10 ** 100)
        if len(pattern) <= 12:
            self.assertNotEqual(slow_image(one, pattern, modulus), slow_image(other, pattern, modulus))
        # This count stands in the square table of the quotient, which is that of equal words otherwise.
        self.assertNotEqual(count(one * ~other, pattern) % modulus, 0)
        self.assertIs(is_parting(one, other, ("equal",)), False)

    def test_told_worlds_part(self):
        for one, other in itertools.product(words(), words()):
            self.check(one, other)
        for one, other in itertools.product(some_words("abc", 6, 4), some_words("abc", 6, 5)):
            self.check(one, other)

    def test_far_exponents(self):
        for number in (1, 2, 12, math.lcm(*range(1, 300)), LONGEST, -LONGEST):
            one, other = Word("ab", (("a", LONGEST), ("b", 1))), Word("ab", (("a", LONGEST), ("b", 1), ("a", number)))
            self.check(one, other)
            self.check(Word("ab", (("a", number),)), EMPTY)

    def test_counts_that_many_moduli_divide(self):
        number = math.lcm(*range(1, 400))
        one = Word("ab", (("a", number), ("b", number), ("a", -number)))
        told = parting(one, EMPTY)
        self.assertNotEqual(number ** 3 % told[2], 0)
        self.assertIs(is_parting(one, EMPTY, told), True)

    def test_equal_up_to_five_letters(self):
        self.assertEqual(first_difference(DEEP, EMPTY, 5), None)
        self.check(DEEP, EMPTY)
        self.check(SWAP, SWAP * DEEP)
        self.assertIs(is_parting(DEEP, EMPTY, ("world", "aaaaab", 2)), True)
        for pattern in patterns_of("ab", 5):
            self.assertIs(is_parting(DEEP, EMPTY, ("world", pattern, 7)), False)

    def test_greatest_words(self):
        one, other = FULL, Word("ab", alternating(200, "ba", -1))
        told = parting(one, other)
        self.assertEqual(told, ("world", "ab" * 200, 2))
        self.assertIs(is_parting(one, other, told), True)
        self.assertIs(is_parting(one, one, told), False)
        self.assertIs(is_parting(one, one, ("equal",)), True)

    def test_worlds_that_do_not_part(self):
        a = Word.of("ab", "a")
        for value, told in (
            (("world", "a", 2), False), (("world", "a", 3), True), (("world", "b", 3), False), (("world", "", 2), False),
            (("world", "ba", 3), True), (("world", "aa", 2), True), (("world", "bb", 2), False),
        ):
            self.assertIs(is_parting(a, a.power(3), value), told)

    def test_any_entry_counts(self):
        # The parts of the pattern part the words, the pattern itself does not.
        one, other = Word.of("ab", "b"), Word.of("ab", "bb")
        self.assertIs(is_parting(one, other, ("world", "aba", 7)), True)
        self.assertEqual(count(one, "aba"), count(other, "aba"))

    def test_wrong_forms(self):
        for value in (
            (), ("equal", "equal"), ["equal"], ("Equal",), "equal", ("world",), ("world", "a"), ["world", "a", 3],
            ("world", "a", 3, 3), ("World", "a", 3), ("world", "A", 3), ("world", "c", 3), ("world", "ac", 3),
            ("world", ["a"], 3), ("world", "a" * 401, 3), ("world", "a", 1), ("world", "a", 0), ("world", "a", True),
            ("world", "a", -3), ("world", "a", TOO_LONG), ("world", "a", "3"), ("world", "a", None), ("world", 3, "a"),
            ("a", 3), ("equal", "a", 3), None, True, 1, ("world", SWAP, 3), (SWAP, "a", 3), ("world", "a", ODD),
        ):
            self.assertIs(is_parting(EMPTY, Word.of("ab", "a"), value), False)
        for modulus in (2, 3, LONGEST):
            for pattern in ("a", "ba", "a" * 400):
                self.assertIs(is_parting(EMPTY, Word.of("ab", "a"), ("world", pattern, modulus)), True)

    def test_every_value_is_judged_and_left_as_it_is(self):
        for value in all_kinds():
            before = shown(value)
            for passed in (value, (value,), ("world", value, 2), ("world", "a", value), (value, "a", 2)):
                told = is_parting(SWAP, TWO, passed)
                self.assertIn(repr(told), ("True", "False"))
                self.assertIs(told, is_parting(SWAP, TWO, passed))
            for passed in (value, (value,), (value, "a", 3)):
                self.assertIs(is_parting(SWAP, TWO, passed), False)
            right = value.__class__ is int and 2 < value <= LONGEST
            self.assertIs(is_parting(SWAP, TWO, ("world", "a", value)), right)
            if not is_pattern("ab", value):
                self.assertIs(is_parting(SWAP, TWO, ("world", value, 3)), False)
            self.assertEqual(shown(value), before)


class Statements(unittest.TestCase):
    def test_words_are_equal_if_all_counts_are(self):
        source = random.Random(6)
        for _ in range(40):
            one, other = some_words("ab", 2, source.randrange(10 ** 6), most=4)
            told = run_pattern(one, other)
            self.assertIs(told is None, one == other)
            if told is not None and len(one * ~other) > 0:
                self.assertEqual(count(one * ~other, told[0]), told[1])

    def test_one_and_two_letters_do_not_tell_three(self):
        word = bracket_of("ab", "aab")
        self.assertEqual(Table.of(word, 2), Table.unit("ab", 2))
        self.assertEqual([count(word, "aab"), count(word, "aba"), count(word, "baa")], [1, -2, 1])


class Wrong(Arguments):
    def test_arguments(self):
        self.check(level, WORD, DEPTH)
        self.check(first_difference, WORD, WORD, DEPTH)
        self.check(run_pattern, WORD, WORD)
        self.check(image, WORD, PATTERN, MODULUS)
        self.check(parting, WORD, WORD)
        for value in (("equal",), None, ("world", "a", 2)):
            self.check(lambda one, other, value=value: is_parting(one, other, value), WORD, WORD)

    def test_unlike_letters(self):
        for other in (Word("a", ()), Word("abc", ()), Word.of("ac", "a"), Word.of("xyz", "x")):
            self.refused(InvalidOperation, first_difference, SWAP, other, 2)
            self.refused(InvalidOperation, run_pattern, SWAP, other)
            self.refused(InvalidOperation, parting, other, SWAP)
            self.refused(InvalidOperation, is_parting, SWAP, other, ("equal",))
            self.refused(InvalidOperation, is_parting, SWAP, other, None)

    def test_unlike_letters_behind_wrong_arguments(self):
        for depth in (0, 6, True, None):
            self.refused(InvalidNumber, first_difference, SWAP, Word("a", ()), depth)

    def test_moduli(self):
        for modulus in (1, 0, -1, -2, True, False, TOO_LONG, -TOO_LONG, None, "2", (2,)):
            self.refused_number(lambda value: image(SWAP, "ab", value), modulus)
            self.refused(InvalidPattern, image, SWAP, "c", modulus)
        self.assertEqual(image(Word.of("ab", "A"), "a", LONGEST), ((1, LONGEST - 1), (0, 1)))
