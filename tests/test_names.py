"""Points 0.1, 0.4, 0.5, 0.7 and the functions of stage 1."""

import string
import unittest

from signedcounts.base import names
from signedcounts.base.names import is_integer, is_letters, is_name, is_pattern, is_text
from signedcounts.errors import InvalidLetters
from values import LONGEST, SWAP, TOO_LONG, all_but, all_kinds, shown

# No letters: printable signs, those beside the letters in the table of signs, and some beyond it.
NO_LETTERS = "c0 \n-_@[`{~\u00e9\u0131\u017f\u212a"


class Example(unittest.TestCase):
    def test_as_in_the_document(self):
        told = [
            is_integer(True), is_name("left"), is_letters("ba"), is_text("ab", "aBBa"), is_text("ab", "abC"),
            is_pattern("ab", ""), is_pattern("ab", "aB"),
        ]
        self.assertEqual(told, [False, True, False, True, False, True, False])


class Constants(unittest.TestCase):
    def test_values(self):
        told = [names.MAX_NAME, names.MAX_DIGITS, names.MAX_TEXT, names.MAX_PATTERN, names.MAX_DEPTH]
        self.assertEqual(told, [8, 200, 4000, 400, 5])


class Judges(unittest.TestCase):
    def test_every_value_is_judged_and_left_as_it_is(self):
        judges = (
            is_integer, is_name, is_letters, lambda value: is_text("ab", value), lambda value: is_pattern("ab", value),
        )
        for judge in judges:
            for value in all_kinds():
                before = shown(value)
                told = judge(value)
                self.assertIn(repr(told), ("True", "False"))
                self.assertIs(told, judge(value))
                self.assertEqual(shown(value), before)

    def test_letters_that_are_none_are_refused(self):
        for judge in (is_text, is_pattern):
            for letters in all_but(is_letters):
                for value in ("", "a", None, 1, letters):
                    with self.assertRaises(InvalidLetters):
                        judge(letters, value)


class Integers(unittest.TestCase):
    def test_integers(self):
        for value in (0, 1, -1, 10 ** 30, -10 ** 199, LONGEST - 1, LONGEST, -LONGEST):
            self.assertIs(is_integer(value), True)

    def test_longer_ones(self):
        for value in (TOO_LONG, -TOO_LONG, TOO_LONG + 1, -TOO_LONG - 1, 10 ** 300 - 1, 1 - 10 ** 300, 10 ** 5000):
            self.assertIs(is_integer(value), False)

    def test_no_integers(self):
        for value in all_but(lambda value: value.__class__ is int) + ["12", (1,), [1], {1: 1}]:
            self.assertIs(is_integer(value), False)


class Names(unittest.TestCase):
    def test_names(self):
        for value in ("a", "z", "left", "aa", "ba", "abcdefgh", "zzzzzzzz"):
            self.assertIs(is_name(value), True)
        for letter in string.ascii_lowercase:
            self.assertIs(is_name(letter), True)

    def test_lengths(self):
        told = [is_name("n" * count) for count in (0, 1, 8, 9, 4000)]
        self.assertEqual(told, [False, True, True, False, False])

    def test_other_signs_at_any_place(self):
        for sign in NO_LETTERS.replace("c", "") + string.ascii_uppercase:
            for value in (sign, sign + "ab", "a" + sign + "b", "ab" + sign):
                self.assertIs(is_name(value), False)

    def test_no_strings(self):
        for value in all_but(lambda value: isinstance(value, str)) + [("a",), ["a"], {"a": "a"}]:
            self.assertIs(is_name(value), False)


class Letters(unittest.TestCase):
    def test_letters(self):
        for value in ("a", "z", "m", "ab", "az", "yz", "abc", "axz", "xyz"):
            self.assertIs(is_letters(value), True)
        for letter in string.ascii_lowercase:
            self.assertIs(is_letters(letter), True)

    def test_number_of_letters(self):
        self.assertEqual([is_letters("abcd"[:count]) for count in range(5)], [False, True, True, True, False])
        self.assertIs(is_letters(string.ascii_lowercase), False)

    def test_not_ascending(self):
        for value in ("ba", "acb", "bac", "cab", "cba", "bca"):
            self.assertIs(is_letters(value), False)

    def test_twice_the_same(self):
        for value in ("aa", "aab", "abb", "aba", "aaa"):
            self.assertIs(is_letters(value), False)

    def test_capitals_and_other_signs(self):
        for value in ("A", "Z", "AB", "Ab", "aB", "Aab", "abC", "ABC"):
            self.assertIs(is_letters(value), False)
        for sign in NO_LETTERS.replace("c", ""):
            for value in (sign, sign + "ab", "a" + sign, "ab" + sign):
                self.assertIs(is_letters(value), False)

    def test_no_strings(self):
        for value in all_but(lambda value: isinstance(value, str)) + [("a", "b"), ["a", "b"], {"a": 1, "b": 1}, SWAP]:
            self.assertIs(is_letters(value), False)


class Texts(unittest.TestCase):
    def test_texts(self):
        for value in ("", "a", "B", "aA", "bAbA", "abBA" * 1000):
            self.assertIs(is_text("ab", value), True)
        self.assertEqual([is_text("z", "zZ"), is_text("axz", "zXa"), is_text("a", "b")], [True, True, False])

    def test_lengths(self):
        for sign in "aBbA":
            told = [is_text("ab", sign * count) for count in (0, 1, 3999, 4000, 4001)]
            self.assertEqual(told, [True, True, True, True, False])

    def test_other_signs_at_any_place(self):
        for sign in NO_LETTERS + "C":
            for rest in ("", "a", "aB" * 5, "Ab" * 1999):
                for at in {0, len(rest) // 2, len(rest)}:
                    self.assertIs(is_text("ab", rest[:at] + sign + rest[at:]), False)

    def test_signs_that_become_letters(self):
        # Their capital or small sign is a letter, but they are none.
        told = [is_text("k", "\u212a"), is_text("s", "\u017f"), is_text("i", "\u0131"), is_pattern("k", "\u212a")]
        self.assertEqual(told, [False, False, False, False])

    def test_no_strings(self):
        for value in all_but(lambda value: isinstance(value, str)) + [("a",), ["a"], {"a": 1}]:
            self.assertIs(is_text("ab", value), False)


class Patterns(unittest.TestCase):
    def test_patterns(self):
        for value in ("", "a", "b", "ba", "aab", "ab" * 200):
            self.assertIs(is_pattern("ab", value), True)
        self.assertEqual([is_pattern("z", "zz"), is_pattern("axz", "zxa"), is_pattern("a", "b")], [True, True, False])

    def test_lengths(self):
        told = [is_pattern("ab", "b" * count) for count in (0, 1, 399, 400, 401, 4000)]
        self.assertEqual(told, [True, True, True, True, False, False])

    def test_other_signs_at_any_place(self):
        for sign in NO_LETTERS + "ABC":
            for rest in ("", "a", "ab" * 5, "ab" * 199):
                for at in {0, len(rest) // 2, len(rest)}:
                    self.assertIs(is_pattern("ab", rest[:at] + sign + rest[at:]), False)

    def test_no_strings(self):
        for value in all_but(lambda value: isinstance(value, str)) + [("a",), ["a"], {"a": 1}]:
            self.assertIs(is_pattern("ab", value), False)
