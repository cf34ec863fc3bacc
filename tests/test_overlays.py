"""Point 0.11 and stage 6: overlays and the rule."""

import itertools
import unittest

from signedcounts.base.names import is_letters, is_pattern
from signedcounts.errors import InvalidLetters, InvalidOperation, InvalidPattern, InvalidTable, TooMany
from signedcounts.table import overlays as module
from signedcounts.table.overlays import does_follow, overlays, rule_sum
from signedcounts.table.tables import Table
from signedcounts.word.words import Word
from checks import Arguments, Kind
from values import FAR, LONG, LONGEST, ODD, SLY, SWAP, TWO, is_table, some_tables, some_words

LETTERS = Kind(InvalidLetters, is_letters, ["ab"], ["ba", "aa"])
PATTERN = Kind(InvalidPattern, lambda value: is_pattern("ab", value), ["ab"], ["A", "c"])
TABLE = Kind(InvalidTable, is_table, [Table.of(TWO, 5)])
SHORT = [pattern for pattern in ("".join(s) for n in range(5) for s in itertools.product("ab", repeat=n))]


def slow_overlays(letters, one, other):
    """The overlays, by their definition: patterns with two sets of places."""
    found = {}
    for size in range(max(len(one), len(other)), len(one) + len(other) + 1):
        for signs in itertools.product(letters, repeat=size):
            number = 0
            for first in itertools.combinations(range(size), len(one)):
                if "".join(signs[place] for place in first) == one:
                    for second in itertools.combinations(range(size), len(other)):
                        if "".join(signs[place] for place in second) == other:
                            number += set(first) | set(second) == set(range(size))
            if number:
                found["".join(signs)] = number
    return tuple(found.items())


class Examples(unittest.TestCase):
    def test_first(self):
        told = [
            overlays("ab", "a", "ab"), overlays("ab", "a", "a"), overlays("ab", "", "ba"),
            sum([number for pattern, number in overlays("ab", "ab", "ab")]),
        ]
        self.assertEqual(told, [
            (("ab", 1), ("aab", 2), ("aba", 1)), (("a", 1), ("aa", 2)), (("ba", 1),), 11,
        ])

    def test_second(self):
        two = Table.of(TWO, 3)
        told = [
            rule_sum(two, "a", "ab"), does_follow(two, "a", "ab"), rule_sum(ODD, "a", "b"), does_follow(ODD, "a", "b"),
            does_follow(ODD, "b", "b"),
        ]
        self.assertEqual(told, [4, True, 0, False, True])

    def test_constant(self):
        self.assertEqual(module.MAX_OVERLAY, 8)


class Overlays(unittest.TestCase):
    def test_by_the_definition(self):
        for one, other in itertools.product(SHORT, SHORT):
            if len(one) + len(other) <= 5:
                self.assertEqual(overlays("ab", one, other), slow_overlays("ab", one, other))
        for one, other in (("ab", "ca"), ("abc", "b"), ("cc", "cc"), ("abc", "")):
            self.assertEqual(overlays("abc", one, other), slow_overlays("abc", one, other))
        for one, other in (("abab", "ab"), ("aaaa", "aaa"), ("abba", "ba")):
            self.assertEqual(overlays("ab", one, other), slow_overlays("ab", one, other))

    def test_alike_both_ways(self):
        for one, other in itertools.product(SHORT, SHORT):
            self.assertEqual(overlays("ab", one, other), overlays("ab", other, one))

    def test_empty_patterns(self):
        self.assertEqual(overlays("ab", "", ""), (("", 1),))
        for pattern in ("a", "ba", "abababab", "b" * 8):
            self.assertEqual(overlays("ab", "", pattern), ((pattern, 1),))
            self.assertEqual(overlays("ab", pattern, ""), ((pattern, 1),))

    def test_eight_letters(self):
        # Paths from corner to corner, with steps along each side and across.
        self.assertEqual(sum(number for _, number in overlays("ab", "aaaa", "aaaa")), 321)
        self.assertEqual(sum(number for _, number in overlays("ab", "aaaa", "bbbb")), 70)
        self.assertEqual(overlays("a", "aaaa", "aaaa"), (("a" * 4, 1), ("a" * 5, 20), ("a" * 6, 90), ("a" * 7, 140),
                                                         ("a" * 8, 70)))
        self.assertEqual(overlays("ab", "aaaaaaa", "b")[0], ("aaaaaaab", 1))
        self.assertEqual(len(overlays("ab", "abababa", "b")), 6)

    def test_in_order(self):
        for one, other in itertools.product(SHORT[::2], SHORT[::3]):
            told = overlays("ab", one, other)
            self.assertIs(told.__class__, tuple)
            patterns = [pattern for pattern, number in told]
            self.assertEqual(patterns, sorted(set(patterns), key=lambda pattern: (len(pattern), pattern)))
            self.assertEqual({pair.__class__ for pair in told}, {tuple})
            self.assertTrue(all(number >= 1 for pattern, number in told))


class Rule(unittest.TestCase):
    def test_sums(self):
        for table in some_tables("ab", 4, 4, 1) + [Table.of(LONG, 3), SLY, Table("ab", 2, (LONGEST,) * 6)]:
            for one, other in itertools.product(SHORT, SHORT):
                if len(one) + len(other) <= table.depth:
                    total = sum(number * table[pattern] for pattern, number in overlays("ab", one, other))
                    self.assertEqual(rule_sum(table, one, other), total)
                    self.assertIs(does_follow(table, one, other), table[one] * table[other] == total)

    def test_tables_of_words_follow_it(self):
        for word in some_words("ab", 12, 2) + [SWAP, TWO, FAR, LONG]:
            table = Table.of(word, 5)
            for one, other in itertools.product(SHORT, SHORT):
                if len(one) + len(other) <= 5:
                    self.assertIs(does_follow(table, one, other), True)
                    self.assertEqual(rule_sum(table, one, other), table[one] * table[other])
        for word in some_words("abc", 3, 3):
            for one, other in (("ab", "ca"), ("c", "abc"), ("cba", "bb"), ("aa", "abc")):
                self.assertIs(does_follow(Table.of(word, 5), one, other), True)

    def test_empty_patterns(self):
        for table in (ODD, SLY, Table("ab", 2, (5, -4, 3, 2, 1, 9))):
            for pattern in ("", "a", "ab", "bb"):
                self.assertIs(does_follow(table, "", pattern), True)
                self.assertIs(does_follow(table, pattern, ""), True)
                self.assertEqual(rule_sum(table, "", pattern), table[pattern])
                self.assertEqual(rule_sum(table, pattern, ""), table[pattern])

    def test_alike_both_ways(self):
        for table in some_tables("ab", 4, 3, 4):
            for one, other in itertools.product(SHORT, SHORT):
                if len(one) + len(other) <= 4:
                    self.assertEqual(rule_sum(table, one, other), rule_sum(table, other, one))
                    self.assertIs(does_follow(table, one, other), does_follow(table, other, one))

    def test_all_single_letters_are_not_enough(self):
        for letter in "ab":
            for other in SHORT:
                if 0 < len(other) < 4:
                    self.assertIs(does_follow(SLY, letter, other), True)
        self.assertIs(does_follow(SLY, "ab", "ab"), False)


class Wrong(Arguments):
    def test_arguments(self):
        self.check(overlays, LETTERS, PATTERN, PATTERN)
        self.check(rule_sum, TABLE, PATTERN, PATTERN)
        self.check(does_follow, TABLE, PATTERN, PATTERN)

    def test_more_than_eight_letters(self):
        for one, other in (("a" * 9, ""), ("", "b" * 9), ("aaaa", "bbbbb"), ("a", "b" * 8), ("a" * 400, "b" * 400)):
            self.refused_many(8, overlays, "ab", one, other)

    def test_wrong_arguments_ahead_of_too_many(self):
        self.refused(InvalidLetters, overlays, "ba", "a" * 9, "b" * 9)
        self.refused(InvalidPattern, overlays, "ab", "a" * 9, "c")
        self.refused(InvalidPattern, overlays, "ab", "a" * 401, "b" * 9)
        self.refused(InvalidPattern, overlays, "ab", "a" * 9, "b" * 401)
        self.assertRaises(TooMany, overlays, "ab", "a" * 400, "")

    def test_more_letters_than_the_depth(self):
        for call in (rule_sum, does_follow):
            for one, other in (("aa", "b"), ("a", "bb"), ("", "aaa"), ("aba", ""), ("a" * 400, "b" * 400)):
                self.refused(InvalidOperation, call, ODD, one, other)
            self.refused(InvalidOperation, call, Table.unit("ab", 5), "aaa", "bbb")
            self.refused(InvalidOperation, call, Table.of(Word.of("a", "a"), 1), "a", "a")

    def test_wrong_arguments_ahead_of_the_depth(self):
        for call in (rule_sum, does_follow):
            self.refused(InvalidPattern, call, ODD, "aaa", "c")
            self.refused(InvalidPattern, call, ODD, "a" * 401, "b")
            self.refused(InvalidPattern, call, ODD, "aaa", None)
            self.refused(InvalidTable, call, SWAP, "aaa", "c")
