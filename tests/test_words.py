"""Points 0.7, 0.8 and the class Word: what it tells of right arguments."""

import itertools
import unittest

from signedcounts.errors import TooMany
from signedcounts.word import words
from signedcounts.word.words import Word
from values import FAR, LONGEST, SWAP, TEXTS, TWO, all_but, all_kinds, alternating, reduced_text


class Examples(unittest.TestCase):
    def test_first(self):
        told = [
            SWAP.runs, (SWAP * ~SWAP).runs, Word.of("ab", "abBBa").shortest(),
            Word("ab", (("a", 2), ("b", 0), ("a", -2))).runs, TWO.size, len(TWO), FAR[1], str(SWAP),
        ]
        self.assertEqual(told, [
            (("a", 1), ("b", 1), ("a", -1), ("b", -1)), (), "aBa", (), 3, 2, ("b", -2), "word of 4 runs over ab",
        ])

    def test_second(self):
        a, b = Word.of("ab", "a"), Word.of("ab", "b")
        told = [
            a.bracket(b) == SWAP, b.turned(a).shortest(), a.power(-3).runs, (~TWO).shortest(),
            TWO.power(2).shortest(), a.over("abc").letters, FAR.size,
        ]
        self.assertEqual(told, [
            True, "abA", (("a", -3),), "BAA", "aabaab", "abc", 1000000000000000000000000000002,
        ])

    def test_third(self):
        with self.assertRaises(TooMany) as caught:
            FAR.shortest()
        self.assertEqual(caught.exception.limit, 4000)

    def test_constants(self):
        self.assertEqual([words.MAX_RUNS, words.MAX_POWER], [200, 400])


class Runs(unittest.TestCase):
    def test_neighbours_are_put_together(self):
        for pairs, runs in (
            ((), ()),
            ((("a", 0),), ()),
            ((("a", 1), ("a", 1)), (("a", 2),)),
            ((("a", 1), ("a", -1)), ()),
            ((("a", 1), ("b", 0), ("a", 2)), (("a", 3),)),
            ((("b", 0), ("a", 1), ("b", 0)), (("a", 1),)),
            ((("a", 1), ("b", 2), ("b", -2), ("a", -1)), ()),
            ((("a", 1), ("b", 2), ("b", -1), ("b", -1), ("a", -3), ("b", 1)), (("a", -2), ("b", 1))),
            ((("a", 0), ("a", 5), ("a", 0)), (("a", 5),)),
            ((("b", 1), ("a", 1), ("c", 1)), (("b", 1), ("a", 1), ("c", 1))),
        ):
            self.assertEqual(Word("abc", pairs).runs, runs)

    def test_of_tells_the_word_of_a_text(self):
        for text in TEXTS + ["", "aA" * 2000, "a" * 4000, "B" * 4000, "ab" * 100, "abc"[:2] * 50]:
            word = Word.of("ab", text)
            left = reduced_text(text)
            runs = tuple(
                (sign.lower(), len(list(group)) * (1 if sign.islower() else -1))
                for sign, group in itertools.groupby(left)
            )
            self.assertEqual(word.runs, runs)
            self.assertEqual([word.letters, word.size, len(word)], ["ab", len(left), len(runs)])
            self.assertEqual(word.shortest(), left)

    def test_kinds_of_values(self):
        word = Word.of("abc", "aaBc")
        self.assertIs(word.runs.__class__, tuple)
        for run in word.runs:
            self.assertEqual([run.__class__, run[0].__class__, run[1].__class__], [tuple, str, int])
        self.assertEqual([word.size.__class__, word.letters.__class__], [int, str])

    def test_one_letter_and_three(self):
        self.assertEqual(Word.of("z", "zzZz").runs, (("z", 2),))
        self.assertEqual(Word.of("axz", "zXXa").runs, (("z", 1), ("x", -2), ("a", 1)))

    def test_integers_of_two_hundred_digits(self):
        word = Word("ab", (("a", LONGEST), ("b", -LONGEST)))
        self.assertEqual(word.runs, (("a", LONGEST), ("b", -LONGEST)))
        self.assertEqual(word.size, 2 * LONGEST)

    def test_sums_can_be_longer(self):
        self.assertEqual(Word("ab", (("a", LONGEST), ("a", 1))).runs, (("a", LONGEST + 1),))
        self.assertEqual(Word("ab", (("a", -LONGEST),) * 300).runs, (("a", -300 * LONGEST),))

    def test_limit_counts_the_runs_that_are_left(self):
        for pairs, count in (
            (alternating(200), 200),
            (alternating(200) + (("b", 1),), 200),
            (alternating(200) + (("a", 0),), 200),
            ((("b", 0),) * 5000 + alternating(200), 200),
            (alternating(201) + (("a", -1),), 200),
            (alternating(3000) + alternating(3000, exponent=-1)[::-1], 0),
            (alternating(1201) + alternating(1001, "ba", -1)[::-1], None),
        ):
            if count is None:
                self.assertRaises(TooMany, Word, "ab", pairs)
            else:
                self.assertEqual(len(Word("ab", pairs)), count)


class Sequence(unittest.TestCase):
    def test_index_length_and_iteration(self):
        for word in (SWAP, TWO, FAR, Word("ab", ()), Word("ab", alternating(200))):
            self.assertEqual([word[index] for index in range(len(word))], list(word.runs))
            self.assertEqual(list(word), list(word.runs))
            self.assertEqual(tuple(run for run in word), word.runs)
            self.assertEqual(len(word), len(word.runs))

    def test_text(self):
        told = [str(Word("a", ())), str(Word.of("abc", "c")), str(FAR), str(Word("xz", alternating(200, "xz")))]
        self.assertEqual(told, [
            "word of 0 runs over a", "word of 1 runs over abc", "word of 2 runs over ab", "word of 200 runs over xz",
        ])


class Equality(unittest.TestCase):
    def test_equal_words(self):
        for one, other in (
            (SWAP, Word.of("ab", "abAB")), (SWAP, Word.of("ab", "abBbAaAB")), (Word("ab", ()), Word.of("ab", "aA")),
            (FAR, Word("ab", (("a", 1), ("a", 10 ** 30 - 1), ("b", -2)))),
        ):
            self.assertIs(one == other, True)
            self.assertIs(one != other, False)

    def test_unlike_words(self):
        for one, other in (
            (SWAP, ~SWAP), (SWAP, TWO), (Word("a", ()), Word("ab", ())), (Word.of("a", "a"), Word.of("ab", "a")),
            (FAR, Word("ab", (("a", 10 ** 30), ("b", -3)))), (Word.of("ab", "a"), Word.of("ab", "b")),
        ):
            self.assertIs(one == other, False)
            self.assertIs(one != other, True)

    def test_every_value_is_accepted(self):
        for value in all_but(lambda value: isinstance(value, Word)) + [SWAP.runs, list(SWAP.runs), str(SWAP)]:
            for word in (SWAP, Word("ab", ())):
                self.assertIs(word == value, False)
                self.assertIs(word != value, True)

    def test_a_word_equals_just_itself_among_all_kinds(self):
        self.assertEqual(len([value for value in all_kinds() if value == SWAP]), 1)


class Product(unittest.TestCase):
    def test_texts_one_behind_the_other(self):
        for one, other in itertools.product(TEXTS[:85], TEXTS[:85]):
            product = Word.of("ab", one) * Word.of("ab", other)
            self.assertEqual(product, Word.of("ab", one + other))

    def test_undone(self):
        for text in TEXTS:
            word = Word.of("ab", text)
            self.assertEqual((~word).shortest(), reduced_text(text)[::-1].swapcase())
            self.assertEqual([(word * ~word).runs, (~word * word).runs, ~~word == word], [(), (), True])

    def test_letters_stay(self):
        one, other = Word.of("bcx", "bX"), Word.of("bcx", "xc")
        told = [(one * other), ~one, one.power(2), one.power(0), one.turned(other), one.bracket(other)]
        self.assertEqual([word.letters for word in told], ["bcx"] * 6)

    def test_exponents_get_longer(self):
        word = Word("ab", (("a", LONGEST),)) * Word("ab", (("a", LONGEST), ("b", -1)))
        self.assertEqual(word.runs, (("a", 2 * LONGEST), ("b", -1)))
        self.assertEqual([(~word)[1], word[0], word.size], [("a", -2 * LONGEST), ("a", 2 * LONGEST), 2 * LONGEST + 1])
        self.assertEqual((word * word).runs, (("a", 2 * LONGEST), ("b", -1)) * 2)
        self.assertEqual(word * ~word, Word("ab", ()))
        self.assertEqual(word.over("abc").runs, word.runs)
        self.assertEqual(str(word), "word of 2 runs over ab")

    def test_limit(self):
        one, other = Word("ab", alternating(100)), Word("ab", alternating(101))
        self.assertEqual((one * one).runs, alternating(200))
        self.assertEqual(len(other * one), 200)
        most = Word("ab", alternating(200))
        self.assertEqual([len(most * ~most), len(~most * most), len(most * Word.of("ab", "b"))], [0, 0, 200])


class Power(unittest.TestCase):
    def test_small_powers(self):
        for text in TEXTS[:85]:
            word = Word.of("ab", text)
            for number in range(-4, 5):
                wanted = text * number if number >= 0 else text[::-1].swapcase() * -number
                self.assertEqual(word.power(number), Word.of("ab", wanted))

    def test_greatest_powers(self):
        a = Word.of("ab", "a")
        self.assertEqual([a.power(400).runs, a.power(-400).runs], [(("a", 400),), (("a", -400),)])
        self.assertEqual([SWAP.power(50).shortest(), SWAP.power(-50).shortest()], ["abAB" * 50, "baBA" * 50])
        self.assertEqual([a.power(0).runs, Word("ab", ()).power(400).runs, FAR.power(1)], [(), (), FAR])

    def test_limit_counts_the_runs_of_the_result(self):
        ahead = Word("ab", alternating(99, "ba"))
        for number in (400, -400, 7):
            word = Word.of("ab", "a").turned(ahead)
            power = word.power(number)
            self.assertEqual(power, Word("ab", (("a", number),)).turned(ahead))
        most = Word("ab", alternating(200))
        self.assertEqual([most.power(1), most.power(0).runs, most.power(-1)], [most, (), ~most])

    def test_exponents_get_longer(self):
        word = Word("ab", (("a", LONGEST),))
        for number in (400, -400, 2):
            self.assertEqual(word.power(number).runs, (("a", number * LONGEST),))
        far = word
        for _ in range(30):
            far = far.power(400)
        self.assertEqual(far.runs, (("a", LONGEST * 400 ** 30),))
        self.assertEqual((far * ~far).runs, ())


class Turning(unittest.TestCase):
    def test_turned_and_bracket(self):
        for one, other in itertools.product(TEXTS[:85], TEXTS[:85]):
            word, by = Word.of("ab", one), Word.of("ab", other)
            self.assertEqual(word.turned(by), by * word * ~by)
            self.assertEqual(word.bracket(by), word * by * ~word * ~by)

    def test_limit_counts_the_runs_of_the_result(self):
        by = Word("ab", alternating(140))
        ahead = Word("ab", alternating(60))
        word = ahead * by
        self.assertEqual([len(word), word.turned(by)], [200, by * ahead])
        self.assertEqual(word.bracket(word).runs, ())
        self.assertEqual(word.bracket(~word).runs, ())
        self.assertEqual(word.turned(word), word)

    def test_exponents_get_longer(self):
        long = Word("ab", (("a", 2), ("a", LONGEST)))
        b = Word.of("ab", "b")
        self.assertEqual(b.turned(long).runs, (("a", LONGEST + 2), ("b", 1), ("a", -LONGEST - 2)))
        self.assertEqual(long.bracket(b).runs, (("a", LONGEST + 2), ("b", 1), ("a", -LONGEST - 2), ("b", -1)))


class Shortest(unittest.TestCase):
    def test_most_signs(self):
        self.assertEqual(Word("ab", (("a", 4000),)).shortest(), "a" * 4000)
        self.assertEqual(Word("ab", (("b", -1999), ("a", 2001))).shortest(), "B" * 1999 + "a" * 2001)
        self.assertEqual(Word("ab", ()).shortest(), "")

    def test_is_a_text_of_the_word(self):
        for word in (SWAP, TWO, Word("ab", alternating(200, exponent=-20)), Word.of("xyz", "xYzzZYx")):
            self.assertEqual(Word.of(word.letters, word.shortest()), word)


class Over(unittest.TestCase):
    def test_more_letters(self):
        for letters in ("ab", "abc", "abz"):
            word = SWAP.over(letters)
            self.assertEqual([word.letters, word.runs], [letters, SWAP.runs])
            self.assertIs(word == SWAP, letters == "ab")
        self.assertEqual(Word.of("b", "BB").over("abc"), Word.of("abc", "BB"))
        self.assertEqual(Word.of("z", "z").over("az").runs, (("z", 1),))
