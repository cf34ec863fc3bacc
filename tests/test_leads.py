"""Points 15.1 and 15.2: leads."""

import itertools
import random
import unittest

from signedcounts.base.names import is_letters, is_pattern
from signedcounts.count.counts import count
from signedcounts.errors import (
    InvalidLetters, InvalidOperation, InvalidPattern, InvalidTable, InvalidWord, NotTrue, TooMany, UnknownName,
)
from signedcounts.lead.leads import Lead, origin, weights
from signedcounts.pattern.leading import leading_of, patterns_of
from signedcounts.table.brackets import bracket_of
from signedcounts.table.tables import Table
from signedcounts.table.truth import first_fault, is_true
from signedcounts.word.words import Word
from checks import Arguments, Kind
from values import (
    A, B, DOUBLE, EMPTY, FAR, LONG, LONGEST, ODD, SLIDE, SLY, SWAP, TEXTS, TWO, all_but, all_kinds, alternating,
    is_lead, is_table, is_word, shown, some_tables, some_words, true_tables,
)

LETTERS = Kind(InvalidLetters, is_letters, ["ab"], ["ba", "aa"])
WORDS = Kind(InvalidOperation, lambda value: False, [{"a": A, "b": B}], [{"a": A}, {"a": A, "b": B, "c": A}, [A, B]])
LEAD = Kind(InvalidOperation, is_lead, [SLIDE])
TABLE = Kind(InvalidTable, is_table, [Table.of(SWAP, 2)])
PATTERN = Kind(
    InvalidPattern, lambda value: is_pattern("ab", value) and len(value) <= 5, ["ab"], ["aaabab", "A", "c", "ab" * 201])
ONE_TO_THREE = Lead("a", {"a": Word.of("xyz", "xYzzX")})
THREE_TO_ONE = Lead("xyz", {"x": Word.of("a", "aaa"), "y": Word.of("a", ""), "z": Word.of("a", "A")})


def some_leads():
    found = [SLIDE, DOUBLE, ONE_TO_THREE, THREE_TO_ONE, Lead("ab", {"a": EMPTY, "b": EMPTY}), Lead("ab", {"a": FAR, "b": SWAP})]
    for seed, (letters, onto) in enumerate((("ab", "ab"), ("abc", "abc"), ("ab", "xyz"), ("pqr", "ab"), ("a", "b"))):
        for more in range(2):
            words = some_words(onto, len(letters), 10 * seed + more, 4, (-2, -1, 1, 2))
            found.append(Lead(letters, dict(zip(letters, words))))
    return found


LEADS = some_leads()


def slow_determinant(rows):
    total = 0
    for order in itertools.permutations(range(len(rows))):
        turns = sum(one > other for one, other in itertools.combinations(order, 2))
        product = (-1) ** turns
        for row, at in zip(rows, order):
            product *= row[at]
        total += product
    return total


def led_text(lead, text):
    """The led word of a text, sign by sign."""
    found = Word(lead.onto, ())
    for sign in text:
        found = found * (lead[sign] if sign.islower() else ~lead[sign.lower()])
    return found


class Examples(unittest.TestCase):
    def test_first(self):
        told = [
            SLIDE(TWO).shortest(), SLIDE.determinant, DOUBLE.determinant, weights(DOUBLE, "ab"), weights(DOUBLE, "aa"),
            weights(DOUBLE, ""), DOUBLE(Table.of(TWO, 2)) == Table.of(DOUBLE(TWO), 2), str(SLIDE),
        ]
        self.assertEqual(told, ["ababb", 1, 2, {"ab": 2}, {"a": 1, "aa": 4}, {"": 1}, True, "lead of ab to ab"])

    def test_second(self):
        told = [
            origin(SLIDE, Table.of(A, 2)) == Table.of(Word.of("ab", "aB"), 2), origin(DOUBLE, Table.of(A, 2)),
            origin(DOUBLE, Table.of(A.power(2), 2)) == Table.of(A, 2), (SLIDE * DOUBLE)["a"].shortest(),
            (DOUBLE * SLIDE)["a"].shortest(), DOUBLE(ODD).entries,
        ]
        self.assertEqual(told, [True, None, True, "abab", "aab", (2, 1, 1, 0, 0, 0)])


class Words(Arguments):
    def test_sign_by_sign(self):
        for lead in LEADS:
            for text in TEXTS[::7] + ["abAABBab", "aaabbbAAABBB"]:
                told = text.translate(str.maketrans("abAB", (lead.letters * 2)[:2] + (lead.letters * 2)[:2].upper()))
                self.assertEqual(lead(Word.of(lead.letters, told)), led_text(lead, told))

    def test_letters_and_products(self):
        for lead in LEADS:
            for letter in lead.letters:
                self.assertEqual(lead(Word.of(lead.letters, letter)), lead[letter])
                self.assertEqual(lead(Word.of(lead.letters, letter.upper())), ~lead[letter])
            one, other = some_words(lead.letters, 2, 8, 4)
            self.assertEqual(lead(one * other), lead(one) * lead(other))
            self.assertEqual([lead(~one), lead(one * ~one)], [~lead(one), Word(lead.onto, ())])

    def test_powers_of_any_size(self):
        turned = Lead("ab", {"a": B.turned(FAR), "b": Word("ab", (("a", LONGEST),))})
        for number in (1, -1, 5, 10 ** 30, -LONGEST):
            told = turned(Word("ab", (("a", number),)))
            self.assertEqual(told, Word("ab", (("b", number),)).turned(FAR))
            self.assertEqual(turned(Word("ab", (("b", number),))).runs, (("a", LONGEST * number),))
        self.assertEqual(turned(LONG).size > LONGEST * LONGEST, True)
        gone = Lead("ab", {"a": EMPTY, "b": A})
        self.assertEqual(gone(LONG), Word("ab", (("a", -LONGEST),)))

    def test_two_hundred_runs(self):
        for lead, number, right in (
            (SLIDE, 100, True), (SLIDE, 101, False), (SLIDE, -100, True), (SLIDE, -101, False), (SLIDE, LONGEST, False),
            (Lead("ab", {"a": SWAP, "b": B}), 50, True), (Lead("ab", {"a": SWAP, "b": B}), -51, False),
            (Lead("ab", {"a": Word.of("ab", "aba"), "b": B}), 99, True),
            (Lead("ab", {"a": Word.of("ab", "aba"), "b": B}), 100, False),
            (Lead("ab", {"a": Word.of("ab", "abba"), "b": B}), -10 ** 30, False),
            (Lead("ab", {"a": Word("ab", alternating(200)), "b": B}), 1, True),
            (Lead("ab", {"a": Word("ab", alternating(200)), "b": B}), -2, False),
        ):
            word = Word("ab", (("a", number),))
            if right:
                self.assertEqual(lead(word), lead["a"].power(number))
                self.assertLessEqual(len(lead(word)), 200)
            else:
                self.refused_many(200, lead, word)

    def test_powers_that_would_go_away(self):
        # A power with more than 200 runs is refused, also where the whole word would have few.
        self.refused_many(200, SLIDE, Word("ab", (("a", 101), ("b", -1), ("a", -101))))
        self.assertEqual(len(SLIDE(Word("ab", (("a", 99), ("b", 1), ("a", -1))))), 199)
        self.refused_many(200, SLIDE, Word("ab", (("a", 100), ("b", 1), ("a", 100))))
        same = Lead("ab", {"a": Word.of("ab", "ab"), "b": Word.of("ab", "ab")})
        self.assertEqual(same(Word("ab", (("a", 100), ("b", -99)))), Word.of("ab", "ab"))
        self.refused_many(200, same, Word("ab", (("a", 101), ("b", -101))))
        self.refused_many(200, Lead("ab", {"a": SWAP, "b": A}), Word("ab", (("a", 1), ("b", 1)) * 60))


class Tables(unittest.TestCase):
    def test_tables_of_led_words(self):
        for lead in LEADS:
            for word in some_words(lead.letters, 3, 9, 4):
                for depth in (1, 2, 4):
                    table = lead(Table.of(word, depth))
                    self.assertEqual([table, table.letters], [Table.of(lead(word), depth), lead.onto])

    def test_products(self):
        for lead in LEADS:
            one, other = some_tables(lead.letters, 3, 2, 4)
            self.assertEqual(lead(one * other), lead(one) * lead(other))
            self.assertEqual(lead(~one), ~lead(one))
            self.assertEqual(lead(Table.unit(lead.letters, 3)), Table.unit(lead.onto, 3))
            for table in true_tables(lead.letters, 3, 2, 5, 1, 10 ** 30):
                self.assertIs(is_true(lead(table)), True)

    def test_entry_by_entry(self):
        for lead in LEADS:
            for depth in (1, 3):
                table = some_tables(lead.letters, depth, 1, depth)[0]
                led = lead(table)
                for pattern in ("",) + patterns_of(lead.onto, depth):
                    told = weights(lead, pattern)
                    self.assertEqual(led[pattern], sum(number * table[other] for other, number in told.items()))


class Weights(unittest.TestCase):
    def test_tell_the_counts(self):
        for lead in LEADS:
            words = some_words(lead.letters, 3, 6, 4) + [Word(lead.letters, ())]
            for size in range(6):
                for pattern in ["".join(signs) for signs in itertools.product(lead.onto, repeat=size)][::13]:
                    told = weights(lead, pattern)
                    self.assertEqual(list(told), sorted(told, key=lambda other: (len(other), other)))
                    self.assertTrue(all(number != 0 and len(other) <= size for other, number in told.items()))
                    for word in words:
                        wanted = sum(number * count(word, other) for other, number in told.items())
                        self.assertEqual(count(lead(word), pattern), wanted)

    def test_empty_pattern_and_none(self):
        for lead in LEADS:
            self.assertEqual(weights(lead, ""), {"": 1})
        gone = Lead("ab", {"a": EMPTY, "b": EMPTY})
        self.assertEqual([weights(gone, "a"), weights(gone, "babab")], [{}, {}])
        self.assertEqual(weights(THREE_TO_ONE, "a"), {"x": 3, "z": -1})

    def test_order_and_long_patterns(self):
        told = weights(Lead("ab", {"a": Word.of("ab", "ba"), "b": Word.of("ab", "ab")}), "ab")
        self.assertEqual(list(told.items()), [("b", 1), ("aa", 1), ("ab", 1), ("ba", 1), ("bb", 1)])
        self.assertEqual(len(weights(Lead("ab", {"a": FAR, "b": SWAP}), "ababa")) > 5, True)

    def test_new_dicts(self):
        told = weights(DOUBLE, "aa")
        told["a"] = 7
        told["b"] = 8
        self.assertEqual(weights(DOUBLE, "aa"), {"a": 1, "aa": 4})


class Determinants(unittest.TestCase):
    def test_by_the_permutations(self):
        for lead in LEADS:
            rows = [[count(lead[letter], other) for other in lead.onto] for letter in lead.letters]
            wanted = slow_determinant(rows) if len(lead.letters) == len(lead.onto) else None
            self.assertEqual(lead.determinant, wanted)

    def test_some(self):
        for one, other, number in (
            ("a", "b", 1), ("b", "a", -1), ("ab", "ab", 0), ("aab", "b", 2), ("a", "abAB", 0), ("A", "bb", -2),
            ("abb", "aabbb", -1),
        ):
            lead = Lead("ab", {"a": Word.of("ab", one), "b": Word.of("ab", other)})
            self.assertEqual(lead.determinant, number)
        self.assertEqual(Lead("a", {"a": Word.of("z", "ZZZ")}).determinant, -3)
        self.assertEqual([ONE_TO_THREE.determinant, THREE_TO_ONE.determinant], [None, None])
        rows = ((2, 0, 1), (1, 3, 2), (1, 1, 4))
        words = {x: Word("pqr", tuple(zip("pqr", row))) for x, row in zip("xyz", rows)}
        self.assertEqual(Lead("xyz", words).determinant, slow_determinant(rows))
        self.assertEqual(Lead("ab", {"a": FAR, "b": B}).determinant, 10 ** 30)


class Origins(unittest.TestCase):
    def leads(self):
        return [lead for lead in LEADS if lead.determinant] + [
            Lead("xyz", {"x": Word.of("pqr", "pqPQp"), "y": Word.of("pqr", "qrr"), "z": Word.of("pqr", "pRq")}),
            Lead("ab", {"a": Word.of("ab", "bab"), "b": Word.of("ab", "abbb")}),
        ]

    def test_led_back(self):
        self.assertGreater(len(self.leads()), 4)
        for lead in self.leads():
            for depth in (1, 2, 4) if len(lead.letters) < 3 else (1, 3):
                for table in true_tables(lead.letters, depth, 3, depth, 1, 9):
                    self.assertEqual(origin(lead, lead(table)), table)
                self.assertEqual(origin(lead, Table.unit(lead.onto, depth)), Table.unit(lead.letters, depth))

    def test_there_are_and_there_are_not(self):
        some, none = 0, 0
        for lead in self.leads():
            for depth in (1, 3):
                for table in true_tables(lead.onto, depth, 6, depth, 1, 2):
                    found = origin(lead, table)
                    if found is None:
                        none += 1
                        self.assertNotIn(lead.determinant, (1, -1))
                    else:
                        some += 1
                        self.assertEqual([lead(found), is_true(found)], [table, True])
        self.assertTrue(some > 5 and none > 5)

    def test_by_trying(self):
        # All tables that are led to tables of few exponents have few ones themselves.
        for lead in (DOUBLE, Lead("ab", {"a": Word.of("ab", "ba"), "b": Word.of("ab", "bA")})):
            led = {}
            for word in some_words("ab", 200, 3, 5, (-2, -1, 1, 2)):
                led[lead(Table.of(word, 2)).entries] = Table.of(word, 2)
            for table in true_tables("ab", 2, 30, 4, 1, 3):
                if table.entries in led:
                    self.assertEqual(origin(lead, table), led[table.entries])
                if origin(lead, table) is None:
                    self.assertNotIn(table.entries, led)

    def test_later_levels_alone(self):
        # Up to one letter there is an origin, and at two letters none.
        table = Table.of(A.power(2), 2) * Table.of(SWAP, 2)
        self.assertEqual([origin(DOUBLE, table) is None, origin(DOUBLE, table.cut(1))], [True, Table.of(A, 1)])
        self.assertEqual(origin(DOUBLE, Table.of(A.power(2) * SWAP.power(2), 2)), Table.of(A * SWAP, 2))

    def test_many_digits(self):
        lead = Lead("ab", {"a": FAR, "b": Word("ab", (("b", 10 ** 20), ("a", 3)))})
        for table in true_tables("ab", 4, 2, 3, 1, LONGEST):
            self.assertEqual(origin(lead, lead(table)), table)

    def test_words_have_origins_that_are_not_led_to_them(self):
        # For words, 15.2 is not so: the determinant is 1, but no word is led to the letter a.
        lead = Lead("ab", {"a": A * Word.of("ab", "baBA" + "bABa"), "b": B})
        self.assertEqual(lead.determinant, 1)
        for depth in (1, 3, 5):
            self.assertEqual(lead(origin(lead, Table.of(A, depth))), Table.of(A, depth))


class Leads(Arguments):
    def test_parts(self):
        self.assertEqual([SLIDE.letters, SLIDE.onto, len(SLIDE), len(ONE_TO_THREE)], ["ab", "ab", 2, 1])
        self.assertEqual([ONE_TO_THREE.onto, THREE_TO_ONE.onto, str(ONE_TO_THREE)], ["xyz", "a", "lead of a to xyz"])
        self.assertEqual([SLIDE["a"], SLIDE["b"]], [Word.of("ab", "ab"), B])
        for value in all_but(lambda value: value in ("a", "b")) + ["c", "ab", ""]:
            error = self.refused(UnknownName, SLIDE.__getitem__, value)
            self.assertEqual((shown(error.name), str(error)), (shown(value), repr(value)))

    def test_the_order_of_the_dict_and_later_changes(self):
        words = {"b": B, "a": Word.of("ab", "ab")}
        lead = Lead("ab", words)
        self.assertEqual([lead == SLIDE, list(words)], [True, ["b", "a"]])
        words["a"] = EMPTY
        del words["b"]
        self.assertEqual([lead == SLIDE, lead["a"], lead(TWO).shortest()], [True, Word.of("ab", "ab"), "ababb"])

    def test_equal(self):
        self.assertEqual([SLIDE == Lead("ab", {"a": A * B, "b": B}), SLIDE == DOUBLE, SLIDE != DOUBLE], [True, False, True])
        over = Lead("ab", {"a": (A * B).over("abc"), "b": B.over("abc")})
        self.assertEqual([SLIDE == over, ONE_TO_THREE == THREE_TO_ONE], [False, False])
        self.assertNotEqual(Lead("a", {"a": A}), Lead("b", {"b": A}))
        for value in all_kinds():
            same = is_lead(value) and shown(value) == shown(SLIDE)
            self.assertEqual([SLIDE == value, SLIDE != value], [same, not same])

    def test_not_iterated(self):
        for call in (iter, list, tuple, sorted):
            self.assertRaises(TypeError, call, SLIDE)

    def test_products(self):
        for one, other in itertools.product(LEADS, repeat=2):
            if other.onto != one.letters:
                self.refused(InvalidOperation, Lead.__mul__, one, other)
                continue
            try:
                both = one * other
            except TooMany:
                continue
            self.assertEqual([both.letters, both.onto], [other.letters, one.onto])
            for letter in other.letters:
                self.assertEqual(both[letter], one(other[letter]))
            for word in some_words(other.letters, 3, 2, 3):
                self.assertEqual(both(word), one(other(word)))
            if one.determinant is not None and other.determinant is not None:
                self.assertEqual(both.determinant, one.determinant * other.determinant)
        for value in all_but(lambda value: is_lead(value) and value.onto == "ab"):
            self.refused(InvalidOperation, Lead.__mul__, SLIDE, value)
        long = Lead("ab", {"a": Word.of("ab", "ab").power(100), "b": B})
        self.refused_many(200, Lead.__mul__, Lead("ab", {"a": SWAP, "b": A}), long)
        self.refused_many(200, Lead.__mul__, long, long)

    def test_making(self):
        self.check(Lead, LETTERS, WORDS)
        for words in ({}, {"a": A}, {"b": B}, {"a": A, "c": B}, {"a": A, "b": B, "c": A}, {"A": A, "b": B}, {1: A, 2: B}):
            self.refused(InvalidOperation, Lead, "ab", words)
            self.refused(InvalidLetters, Lead, "ba", words)
        for value in all_but(is_word):
            self.refused(InvalidWord, Lead, "ab", {"a": A, "b": value})
            self.refused(InvalidWord, Lead, "ab", {"b": A.over("abc"), "a": value})
        self.refused(InvalidOperation, Lead, "ab", {"a": A, "b": B.over("abc")})
        self.refused(InvalidOperation, Lead, "ab", {"a": A, "c": 1})
        self.refused(InvalidWord, Lead, "abc", {"a": A, "b": B.over("abc"), "c": 1})

    def test_led_values(self):
        for value in all_but(lambda value: is_word(value) or is_table(value)):
            self.refused(InvalidOperation, SLIDE, value)
        for value in (A.over("abc"), Word("a", ()), Table.unit("a", 2), Table.unit("abc", 1)):
            self.refused(InvalidOperation, SLIDE, value)
        self.refused(InvalidOperation, SLIDE, Word("abc", (("a", LONGEST),)))

    def test_functions(self):
        self.check(weights, LEAD, PATTERN)
        self.check(origin, LEAD, TABLE)
        for pattern in ("aaaaaa", "x", "aX"):
            self.refused(InvalidPattern, weights, SLIDE, pattern)
        self.refused(InvalidPattern, weights, THREE_TO_ONE, "x")
        self.assertEqual(len(weights(ONE_TO_THREE, "xyzzx")) > 0, True)

    def test_origins_that_are_refused(self):
        flat = Lead("ab", {"a": A, "b": A})
        for lead in (flat, ONE_TO_THREE, Lead("ab", {"a": Word.of("xyz", "x"), "b": Word.of("xyz", "y")})):
            self.refused(InvalidOperation, origin, lead, Table.unit(lead.onto, 2))
        for lead in (SLIDE, flat, ONE_TO_THREE):
            self.refused(InvalidOperation, origin, lead, Table.unit("b", 2))
            for table in [ODD, SLY] + some_tables("b", 2, 2, 1) + some_tables("abc", 2, 2, 1):
                # A table that is not true comes ahead of what is said with "then".
                error = self.refused(NotTrue, origin, lead, table)
                self.assertEqual((error.one, error.other), first_fault(table))


if __name__ == "__main__":
    unittest.main()
