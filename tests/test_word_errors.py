"""Points 0.2, 0.4, 1.3 and the class Word: wrong arguments, their order, and that nothing changes."""

import unittest

from signedcounts.base.names import is_letters, is_text
from signedcounts.errors import InvalidLetters, InvalidOperation, InvalidText, InvalidWord
from signedcounts.word.words import Word
from checks import Refusals
from values import FAR, LONGEST, SWAP, TOO_LONG, TWO, all_but, all_kinds, alternating, is_word, shown

FULL = Word("ab", alternating(200))
EMPTY = Word("ab", ())
THREE = Word.of("abc", "abC")


class Making(Refusals):
    def test_letters(self):
        for letters in all_but(is_letters):
            self.refused(InvalidLetters, Word, letters, ())
            self.refused(InvalidLetters, Word.of, letters, "")

    def test_letters_ahead_of_the_rest(self):
        for letters in ("", "ba", "aa", "abcd", "A", None, 1, True, ["a"], ("a",), SWAP):
            for value in all_kinds() + [alternating(201)]:
                self.refused(InvalidLetters, Word, letters, value)
                self.refused(InvalidLetters, Word.of, letters, value)

    def test_no_tuple_of_runs(self):
        right = ((), (("a", 1),))
        for runs in all_but(lambda value: isinstance(value, tuple) and value in right):
            self.refused(InvalidOperation, Word, "ab", runs)

    def test_a_wrong_pair_at_any_place(self):
        for pair in all_kinds() + ["a1", ("a",), ("a", 1, 1), ["a", 1]]:
            if pair == ("a", 1):
                continue
            for runs in ((pair,), (pair, ("a", 1)), (("a", 1), pair), (("a", 1), pair, ("b", 1))):
                self.refused(InvalidOperation, Word, "ab", runs)

    def test_wrong_letters_of_pairs(self):
        for letter in all_but(lambda value: isinstance(value, str) and value in ("a", "b")) + ["B", "c", "bb"]:
            self.refused(InvalidOperation, Word, "ab", ((letter, 1),))
            self.refused(InvalidOperation, Word, "ab", (("a", 1), (letter, 0)))

    def test_letters_side_by_side_are_no_letter(self):
        for letter in ("", "ab", "bc", "abc"):
            self.refused(InvalidOperation, Word, "abc", ((letter, 1),))

    def test_wrong_exponents(self):
        for exponent in all_but(lambda value: value.__class__ is int and abs(value) <= LONGEST):
            self.refused(InvalidOperation, Word, "ab", (("a", exponent),))
            self.refused(InvalidOperation, Word, "ab", (("a", 1), ("b", exponent)))
        for exponent in (TOO_LONG, -TOO_LONG, 10 ** 299, True, False, "1", None):
            self.refused(InvalidOperation, Word, "ab", (("a", exponent), ("a", 1)))

    def test_long_runs_of_a_word_can_not_be_passed(self):
        word = Word("ab", (("a", LONGEST), ("a", 1)))
        self.refused(InvalidOperation, Word, "ab", word.runs)

    def test_too_many_runs(self):
        self.refused_many(200, Word, "ab", alternating(201))
        self.refused_many(200, Word, "ab", alternating(200) + (("b", -1), ("a", 1), ("b", 1), ("a", 1)))
        self.refused_many(200, Word, "ab", alternating(201) + (("b", 0), ("a", 1)))
        self.refused_many(200, Word, "ab", alternating(5000))

    def test_a_wrong_pair_ahead_of_too_many(self):
        for pair in (("c", 1), ("a", TOO_LONG), ("a", True), ["a", 1], None):
            self.refused(InvalidOperation, Word, "ab", alternating(300) + (pair,))
            self.refused(InvalidOperation, Word, "ab", (pair,) + alternating(300))

    def test_no_text(self):
        for text in all_but(lambda value: is_text("ab", value)) + ["c", "C", "abC", "Ca", "aca"]:
            self.refused(InvalidText, Word.of, "ab", text)

    def test_lengths_of_texts(self):
        self.assertEqual(Word.of("ab", "a" * 4000).size, 4000)
        for text in ("a" * 4001, "aA" * 2000 + "a", "B" * 4001, "ab" * 2000 + "a"):
            self.refused(InvalidText, Word.of, "ab", text)

    def test_texts_with_too_many_runs(self):
        self.assertEqual(len(Word.of("ab", "aB" * 100)), 200)
        self.assertEqual(len(Word.of("ab", "aB" * 100 + "B")), 200)
        self.assertEqual(len(Word.of("ab", "aB" * 100 + "aA")), 200)
        for text in ("aB" * 100 + "a", "ab" * 2000, "aaB" * 101):
            self.refused_many(200, Word.of, "ab", text)


class Indices(Refusals):
    def test_out_of_bounds(self):
        for word in (SWAP, EMPTY, FULL):
            for index in (-1, -len(word), len(word), len(word) + 1, LONGEST, TOO_LONG, -TOO_LONG):
                if index == 0 < len(word):
                    continue
                self.refused_number(lambda at, word=word: word[at], index)

    def test_edges(self):
        self.assertEqual([SWAP[0], SWAP[3], FULL[199]], [("a", 1), ("b", -1), ("b", 1)])

    def test_wrong_kinds(self):
        for index in all_but(lambda value: value.__class__ is int and 0 <= value < 4):
            self.refused_number(lambda at: SWAP[at], index)


class Products(Refusals):
    def test_other_operand(self):
        for value in all_but(lambda value: is_word(value) and value.letters == "ab"):
            self.refused(InvalidOperation, lambda other: SWAP * other, value)
            self.refused(InvalidOperation, lambda other: FULL * other, value)

    def test_too_many_runs(self):
        self.refused_many(200, lambda one, other: one * other, FULL, Word.of("ab", "a"))
        self.refused_many(200, lambda one, other: one * other, FULL, FULL)
        self.refused_many(200, lambda one, other: one * other, Word("ab", alternating(100)),
                          Word("ab", alternating(101)))

    def test_unlike_letters_ahead_of_too_many(self):
        other = Word("abc", alternating(200))
        self.refused(InvalidOperation, lambda one, two: one * two, FULL, other)
        self.refused(InvalidOperation, lambda one, two: one * two, other, FULL)


class Powers(Refusals):
    def test_wrong_numbers(self):
        for number in all_but(lambda value: value.__class__ is int and abs(value) <= 400) + [401, -401, LONGEST]:
            self.refused_number(SWAP.power, number)
            self.refused_number(EMPTY.power, number)

    def test_too_many_runs(self):
        for number in (51, -51, 400, -400):
            self.refused_many(200, SWAP.power, number)
        self.refused_many(200, FULL.power, 2)
        self.refused_many(200, TWO.power, 101)
        self.assertEqual(len(TWO.power(100)), 200)

    def test_wrong_number_ahead_of_too_many(self):
        for number in (401, -401, TOO_LONG, True):
            self.refused_number(FULL.power, number)


class Turnings(Refusals):
    def test_no_word(self):
        for value in all_but(is_word):
            self.refused(InvalidWord, SWAP.turned, value)
            self.refused(InvalidWord, SWAP.bracket, value)
            self.refused(InvalidWord, FULL.bracket, value)

    def test_unlike_letters(self):
        for word in (Word("a", ()), Word.of("b", "b"), THREE, Word.of("abz", "a"), Word("abc", alternating(200))):
            for own in (SWAP, FULL):
                self.refused(InvalidOperation, own.turned, word)
                self.refused(InvalidOperation, own.bracket, word)
                self.refused(InvalidOperation, word.turned, own)
                self.refused(InvalidOperation, word.bracket, own)

    def test_too_many_runs(self):
        half = Word("ab", alternating(100))
        self.refused_many(200, Word.of("ab", "a").turned, half)
        self.refused_many(200, FULL.turned, Word.of("ab", "B"))
        self.assertEqual(len(FULL.turned(Word.of("ab", "b"))), 200)
        self.refused_many(200, FULL.bracket, Word.of("ab", "a"))
        self.refused_many(200, half.bracket, Word("ab", alternating(30, "ba")))
        self.assertEqual(len(Word.of("ab", "a").turned(Word("ab", alternating(98)))), 197)


class Others(Refusals):
    def test_shortest(self):
        for runs in ((("a", 4001),), (("a", -4001),), (("a", 2000), ("b", -2001)), (("b", LONGEST),)):
            self.refused_many(4000, Word("ab", runs).shortest)
        self.refused_many(4000, FAR.shortest)
        self.refused_many(4000, Word("a", (("a", LONGEST),) * 2).shortest)

    def test_over(self):
        for letters in all_but(is_letters):
            self.refused(InvalidLetters, SWAP.over, letters)
        for letters in ("a", "b", "c", "acd", "bcd", "xyz"):
            self.refused(InvalidOperation, SWAP.over, letters)
        # The letters of the word count, also those that no run has.
        self.refused(InvalidOperation, EMPTY.over, "a")
        self.refused(InvalidOperation, Word.of("ab", "aa").over, "a")

    def test_attributes_can_not_be_assigned(self):
        for name in ("letters", "runs", "size"):
            with self.assertRaises(AttributeError):
                setattr(SWAP, name, ())


class Unchanged(unittest.TestCase):
    CALLS = (
        lambda word, other: word * other,
        lambda word, other: word.turned(other),
        lambda word, other: word.bracket(other),
        lambda word, other: word.over(other),
        lambda word, other: word.power(other),
        lambda word, other: word[other],
        lambda word, other: word == other,
        lambda word, other: word != other,
        lambda word, other: Word(word.letters, other),
        lambda word, other: Word(other, word.runs),
        lambda word, other: Word.of(word.letters, other),
        lambda word, other: Word.of(other, "a"),
        lambda word, other: ~word,
        lambda word, other: word.shortest(),
        lambda word, other: [word.letters, word.runs, word.size, len(word), list(word), str(word), repr(word)],
    )

    @staticmethod
    def told(call, word, other):
        try:
            return shown(call(word, other))
        except Exception as error:
            return shown(error)

    def test_equal_calls_equal_results_and_nothing_changed(self):
        for word in (Word.of("ab", "abAB"), EMPTY, Word("ab", alternating(200)), Word("ab", (("a", LONGEST),) * 2)):
            for other in all_kinds():
                before = shown(word), shown(other)
                for call in self.CALLS:
                    first = self.told(call, word, other)
                    self.assertEqual(self.told(call, word, other), first)
                    self.assertEqual((shown(word), shown(other)), before)

    def test_equal_states_equal_results(self):
        one, other = Word.of("ab", "abBbA"), Word("ab", (("a", 1), ("b", 1), ("a", -1)))
        for value in all_kinds():
            for call in self.CALLS:
                self.assertEqual(self.told(call, one, value), self.told(call, other, value))

    def test_in_place_signs_make_a_new_word(self):
        word = kept = Word.of("ab", "ab")
        word *= Word.of("ab", "a")
        self.assertEqual([word.shortest(), kept.shortest()], ["aba", "ab"])
