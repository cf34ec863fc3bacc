"""Point 0.9 and stage 4: counts, binomials and scattered places."""

import itertools
import math
import random
import time
import types
import unittest

from signedcounts.base.names import is_integer, is_letters, is_pattern, is_text
from signedcounts.count.counts import beginnings, binomial, count, scattered
from signedcounts.errors import InvalidLetters, InvalidNumber, InvalidPattern, InvalidText, InvalidWord
from signedcounts.word.words import Word
from checks import Arguments, Kind
from values import (
    EMPTY, FAR, LONG, LONGEST, SWAP, TEXTS, TOO_LONG, TWO, all_but, alternating, is_word, slow_table, some_words,
    within,
)

LETTERS = Kind(InvalidLetters, is_letters, ["ab"], ["ba", "aa"])
WORD = Kind(InvalidWord, is_word, [SWAP])
PATTERN = Kind(InvalidPattern, lambda value: is_pattern("ab", value), ["ab"], ["abA", "c", "ab" * 201])
TEXT = Kind(InvalidText, lambda value: is_text("ab", value) and value == value.lower(), ["abab"], ["aB", "A", "abc"])
NUMBER = Kind(InvalidNumber, is_integer, [5])
SIZE = Kind(InvalidNumber, within(0, 400), [2], [401, -1])


def ways(number, size):
    """C(number, size), by its definition."""
    return math.prod(number - at for at in range(size)) // math.factorial(size)


def slow_count(runs, pattern):
    """The count, by its definition."""
    if not runs or not pattern:
        return int(pattern == "")
    (letter, exponent), total = runs[-1], 0
    for size in range(len(pattern) + 1):
        if size > 0 and pattern[-size] != letter:
            break
        total += ways(exponent, size) * slow_count(runs[:-1], pattern[:len(pattern) - size])
    return total


class Examples(unittest.TestCase):
    def test_first(self):
        told = [
            count(SWAP, "ab"), count(SWAP, "ba"), count(SWAP, "aba"), count(SWAP, "abab"), count(TWO, "ab"),
            count(~TWO, "aa"), count(FAR, "abb") == 3 * 10 ** 30, count(SWAP, ""),
        ]
        self.assertEqual(told, [1, -1, -1, 1, 2, 3, True, 1])

    def test_second(self):
        told = [
            beginnings(TWO, "aab"), binomial(5, 2), binomial(-2, 3), binomial(0, 0),
            list(scattered("ab", "abab", "ab")), list(scattered("ab", "ba", "")),
        ]
        self.assertEqual(told, [(1, 2, 1, 1), 10, -4, 1, [(0, 1), (0, 3), (2, 3)], [()]])

    def test_ahead_of_the_interface(self):
        self.assertEqual([count(SWAP, pattern) for pattern in ("a", "b", "ab", "ba")], [0, 0, 1, -1])


class Counts(unittest.TestCase):
    def check(self, word, pattern):
        told = beginnings(word, pattern)
        self.assertIs(told.__class__, tuple)
        self.assertEqual(list(told), [slow_count(word.runs, pattern[:size]) for size in range(len(pattern) + 1)])
        self.assertEqual(count(word, pattern), told[-1])

    def test_signs_one_by_one(self):
        for text in TEXTS + ["abABabAB", "aabbAABB", "BBaabAbaBB", "aAbBaAb"]:
            word = Word.of("ab", text)
            for pattern, number in slow_table("ab", text, 4).items():
                self.assertEqual(count(word, pattern), number)

    def test_by_the_definition(self):
        patterns = ["", "a", "bb", "abab", "aaaa", "aaabbb", "aabbaab", "bbbbbaaab", "abbbbbbba", "aaaaaaaaaab"]
        for word in some_words("ab", 60, 1) + some_words("ab", 20, 2, exponents=(10 ** 30, -10 ** 30, 7, -1)):
            for pattern in patterns:
                self.check(word, pattern)
        for word in some_words("abc", 40, 3):
            for pattern in ("abc", "cab", "aabbcc", "ccc", "abacabc", "caaab", "bbbbbc"):
                self.check(word, pattern)

    def test_many_runs(self):
        for word in some_words("ab", 4, 4, most=40):
            for pattern in ("ab", "aab", "ababab", "aabb", "aaaaabbbbb", "bbbbbbbbb"):
                self.check(word, pattern)

    def test_empty_pattern_and_empty_word(self):
        for word in (EMPTY, SWAP, FAR, LONG, Word("ab", alternating(200))):
            self.assertEqual([count(word, ""), beginnings(word, "")], [1, (1,)])
        for pattern in ("a", "ab", "a" * 400, "ab" * 200):
            self.assertEqual([count(EMPTY, pattern), beginnings(EMPTY, pattern)], [0, (1,) + (0,) * len(pattern)])

    def test_letters_that_stand_in_no_run(self):
        word = Word("abc", (("a", 5), ("b", 2), ("a", -7)))
        self.assertEqual([count(word, "c"), count(word, "ac"), count(word, "aaa")], [0, 0, ways(-2, 3)])
        self.assertEqual(beginnings(word, "aca"), (1, -2, 0, 0))

    def test_patterns_longer_than_the_word(self):
        self.assertEqual([count(TWO, "aabb"), count(TWO, "aaa"), count(TWO, "aabab")], [0, 0, 0])
        self.assertEqual([count(~TWO, "baaa"), count(~TWO, "bbbaa")], [4, -3])
        self.assertEqual(beginnings(TWO, "aaab"), (1, 2, 1, 0, 0))

    def test_far_exponents(self):
        for number in (10 ** 29, -10 ** 29, LONGEST, -LONGEST):
            word = Word("ab", (("a", number), ("b", -number), ("a", 3)))
            for pattern in ("a", "aa", "abba", "bbb", "aabbaa", "aaaaaaa"):
                self.check(word, pattern)
        self.assertEqual(count(Word("a", (("a", LONGEST),)), "a" * 400), math.comb(LONGEST, 400))
        self.assertEqual(count(Word("a", (("a", -LONGEST),)), "a" * 399), -math.comb(LONGEST + 398, 399))
        self.assertEqual(count(Word("a", (("a", LONGEST), ("a", LONGEST))), "aa"), math.comb(2 * LONGEST, 2))

    def test_patterns_of_400_letters(self):
        self.assertEqual(count(Word("ab", alternating(200)), "ab" * 100), 1)
        self.assertEqual(count(Word("ab", alternating(200)), "ab" * 200), 0)
        self.assertEqual(count(Word("ab", alternating(200, exponent=2)), "aabb" * 100), 1)
        self.assertEqual(count(Word("ab", alternating(200, exponent=-1)), "a" * 400), math.comb(499, 400))
        self.assertEqual(count(Word("ab", alternating(200, exponent=4)), "a" * 400), 1)
        self.assertEqual(count(Word("ab", alternating(200, exponent=4)), "b" * 400), 1)
        word = Word("ab", (("a", 250), ("b", -7)))
        self.assertEqual(count(word, "a" * 200 + "b" * 200), math.comb(250, 200) * ways(-7, 200))
        told = beginnings(word, "a" * 200 + "b" * 200)
        self.assertEqual(told[:201], tuple(math.comb(250, size) for size in range(201)))
        self.assertEqual(told[200:], tuple(math.comb(250, 200) * ways(-7, size) for size in range(201)))
        self.assertEqual(count(LONG, "a" * 400), ways(3, 400))
        self.assertEqual(count(LONG, "a" * 3), 1)

    def test_greatest_words_and_patterns_take_no_long_time(self):
        source = random.Random(5)
        word = Word("ab", tuple((letter, source.randrange(1, LONGEST)) for letter, _ in alternating(200)))
        before = time.process_time()
        for pattern in ("a" * 400, "ab" * 200, "a" * 200 + "b" * 200):
            count(LONG, pattern)
            beginnings(LONG, pattern)
            count(word, pattern[:100])
            count(Word("ab", alternating(200, exponent=-1)), pattern)
        self.assertLess(time.process_time() - before, 60)

    def test_blocks_and_runs_agree(self):
        # The same word, told over more runs of a third letter that do not matter, or over fewer.
        for word in some_words("abc", 30, 6, most=30):
            for pattern in ("aaabbb", "abababb", "bbbbaaaab", "aabaab"):
                less = Word("abc", tuple(run for run in word.runs if run[0] != "c"))
                self.assertEqual(beginnings(word, pattern), beginnings(less, pattern))

    def test_product_is_put_together(self):
        words = some_words("ab", 12, 7)
        for one, other in itertools.product(words, words):
            for pattern in ("ab", "abba", "aabab"):
                total = sum(
                    count(one, pattern[:at]) * count(other, pattern[at:]) for at in range(len(pattern) + 1)
                )
                self.assertEqual(count(one * other, pattern), total)


class Binomials(unittest.TestCase):
    def test_by_the_definition(self):
        for number in list(range(-12, 13)) + [10 ** 30, -10 ** 30, 400, 401, -400]:
            for size in (0, 1, 2, 3, 5, 12, 13, 40):
                self.assertEqual(binomial(number, size), ways(number, size))

    def test_edges(self):
        for number in (LONGEST, -LONGEST, 0, 399, 400, -1, -400):
            self.assertEqual([binomial(number, 0), binomial(number, 400)], [1, ways(number, 400)])
        self.assertEqual([binomial(-1, 400), binomial(-1, 399), binomial(3, 4)], [1, -1, 0])


class Scattered(unittest.TestCase):
    def slow(self, text, pattern):
        return [
            places for places in itertools.combinations(range(len(text)), len(pattern))
            if all(text[place] == letter for place, letter in zip(places, pattern))
        ]

    def test_all_places_in_order(self):
        source = random.Random(8)
        for size in range(9):
            for _ in range(12):
                text = "".join(source.choice("ab") for _ in range(size))
                for pattern in ("", "a", "b", "ab", "aab", "aba", "bbbb", "abab", text):
                    told = list(scattered("ab", text, pattern))
                    self.assertEqual(told, self.slow(text, pattern))
                    self.assertEqual(len(told), count(Word.of("ab", text), pattern))
        self.assertEqual(list(scattered("abc", "cabcab", "cb")), [(0, 2), (0, 5), (3, 5)])

    def test_empty_ones(self):
        told = [list(scattered("ab", text, pattern)) for text, pattern in (("", ""), ("ab", ""), ("", "a"), ("a", "b"))]
        self.assertEqual(told, [[()], [()], [], []])

    def test_it_is_a_generator(self):
        self.assertIsInstance(scattered("ab", "ab", "a"), types.GeneratorType)
        for place in next(scattered("ab", "abab", "bb")):
            self.assertIs(place.__class__, int)

    def test_the_first_ones_alone(self):
        told = scattered("ab", "ab" * 2000, "ab" * 200)
        self.assertEqual(next(told), tuple(range(400)))
        self.assertEqual(next(told), tuple(range(399)) + (401,))
        self.assertEqual(next(scattered("ab", "a" * 4000, "a" * 400)), tuple(range(400)))
        self.assertEqual(next(scattered("ab", "b" * 3600 + "ab" * 200, "ab" * 200)), tuple(range(3600, 4000)))

    def test_patterns_that_do_not_stand_there(self):
        for text, pattern in (
            ("ab" * 2000, "b" * 2001), ("a" * 4000, "b"), ("b" * 2000 + "a" * 2000, "ab"),
            ("ab" * 199 + "ba", "ab" * 200), ("a" * 3999 + "b", "a" * 200 + "b" + "a"),
        ):
            if len(pattern) <= 400:
                self.assertEqual(list(scattered("ab", text, pattern)), [])

    def test_no_dead_ends(self):
        # A search that goes on with beginnings that have no end would not come to the end of this.
        told = scattered("ab", "a" * 3000 + "b" + "ab" * 20, "a" * 15 + "b" * 21)
        self.assertEqual(next(told), tuple(range(15)) + (3000,) + tuple(range(3002, 3042, 2)))
        self.assertEqual(list(scattered("ab", "a" * 2000 + "b" * 100 + "a" * 1900, "a" * 30 + "b" * 101)), [])

    def test_errors_at_the_first_element(self):
        for error, values in (
            (InvalidLetters, ("ba", "aB", "c")), (InvalidText, ("ab", "aB", "c")), (InvalidPattern, ("ab", "ab", "c")),
            (InvalidText, ("ab", "c" * 4000, "")), (InvalidText, ("ab", "a" * 4001, "")), (InvalidText, ("ab", None, 1)),
        ):
            told = scattered(*values)
            self.assertRaises(error, next, told)


class Wrong(Arguments):
    def test_arguments(self):
        self.check(count, WORD, PATTERN)
        self.check(beginnings, WORD, PATTERN)
        self.check(binomial, NUMBER, SIZE)
        self.check(lambda letters, text, pattern: next(scattered(letters, text, pattern)), LETTERS, TEXT, PATTERN)

    def test_patterns_of_other_letters(self):
        for pattern in ("c", "abc", "A", "aB"):
            self.refused(InvalidPattern, count, SWAP, pattern)
            self.refused(InvalidPattern, beginnings, SWAP, pattern)
        self.refused(InvalidPattern, count, Word.of("a", "a"), "b")

    def test_capitals(self):
        for text in ("A", "aB", "abA", "B" * 4000):
            self.refused(InvalidText, lambda value: next(scattered("ab", value, "a")), text)

    def test_binomials(self):
        for size in all_but(within(0, 400)) + [401, -1]:
            self.refused_number(lambda value: binomial(5, value), size)
        for number in (TOO_LONG, -TOO_LONG, True, None):
            self.refused_number(lambda value: binomial(value, 0), number)
            self.refused_number(lambda value: binomial(value, 401), number)
