"""Points 11.1 and 11.2: roots of true tables."""

import unittest
from fractions import Fraction

from signedcounts.errors import InvalidNumber, InvalidOperation, InvalidTable, NotTrue
from signedcounts.pattern.leading import leading_of, patterns_of
from signedcounts.power.roots import greatest_root, is_root_paper, root, root_paper
from signedcounts.table.brackets import by_exponents
from signedcounts.table.tables import Table
from signedcounts.table.truth import first_fault, is_true
from signedcounts.word.words import Word
from checks import Arguments, Kind
from values import (
    FAR, LEAN, LONG, LONGEST, ODD, SLY, SWAP, TOO_LONG, TWO, all_kinds, is_table, shown, some_tables, true_tables,
    within,
)

TABLE = Kind(InvalidTable, is_table, [LEAN])
NUMBER = Kind(InvalidNumber, within(1, LONGEST), [2], [0, -1, True, -LONGEST, TOO_LONG])
KINDS = (("a", 4), ("ab", 1), ("ab", 3), ("ab", 5), ("abc", 3))


def slow_root(table, number):
    """F of 11.1, as a dict of fractions by the patterns."""
    patterns = ("",) + patterns_of(table.letters, table.depth)
    rest = {pattern: Fraction(table[pattern] if pattern else 0) for pattern in patterns}
    power = {pattern: Fraction(int(pattern == "")) for pattern in patterns}
    ways, found = Fraction(1), dict(power)
    for size in range(1, table.depth + 1):
        power = {p: sum(power[p[:at]] * rest[p[at:]] for at in range(len(p) + 1)) for p in patterns}
        ways = ways * (Fraction(1, number) - (size - 1)) / size
        found = {p: found[p] + ways * power[p] for p in patterns}
    return found


def tables():
    found = [LEAN, Table.of(SWAP, 3), Table.of(FAR, 3), Table.of(TWO, 4), Table.unit("abc", 2), Table.unit("ab", 5)]
    for letters, depth in KINDS:
        for table in true_tables(letters, depth, 3, depth) + true_tables(letters, depth, 2, depth, 2):
            found.extend([table, table.power(6)])
    return found


class Examples(unittest.TestCase):
    def test_first(self):
        told = [
            LEAN.entries, root(LEAN, 2), root_paper(LEAN, 2), root(Table.of(TWO, 3).power(5), 5) == Table.of(TWO, 3),
            root_paper(Table.of(SWAP, 2).power(3), 3), root(LEAN, 1) == LEAN,
        ]
        self.assertEqual(
            told, [(2, 0, 1, 1, -1, 0), None, ("bar", "ab", 1, 2), True, ("root", (0, 0, 0, 1, -1, 0)), True])

    def test_second(self):
        told = [
            greatest_root(Table.of(TWO, 2).power(6)) == (Table.of(TWO, 2), 6), greatest_root(LEAN)[1],
            greatest_root(~Table.of(SWAP, 2))[1], is_root_paper(LEAN, 2, ("bar", "ab", 2, 4)),
            is_root_paper(LEAN, 2, ("bar", "ba", -1, 2)),
        ]
        self.assertEqual(told, [True, 1, 1, False, False])


class Roots(unittest.TestCase):
    def test_by_the_fractions(self):
        for table in tables():
            for number in (1, 2, 3, 4, 6, 12, 35):
                parts = slow_root(table, number)
                leading = leading_of(table.letters, table.depth)
                if all(parts[pattern].denominator == 1 for pattern in leading):
                    entries = tuple(int(parts[pattern]) for pattern in patterns_of(table.letters, table.depth))
                    self.assertEqual(root(table, number).entries, entries)
                    self.assertEqual(root_paper(table, number), ("root", entries))
                else:
                    self.assertIs(root(table, number), None)
                    word, pattern, above, below = root_paper(table, number)
                    self.assertEqual((word, Fraction(above, below)), ("bar", parts[pattern]))
                    self.assertEqual((above, below), (parts[pattern].numerator, parts[pattern].denominator))
                    self.assertGreaterEqual(below, 2)
                    self.assertIn(pattern, leading)

    def test_powers_of_roots_are_the_table(self):
        for table in tables():
            for number in (1, 2, 3, 360, 10 ** 30, LONGEST):
                power = table.power(number)
                self.assertEqual(root(power, number), table)
                self.assertIs(is_root_paper(power, number, ("root", table.entries)), True)
                found = root(table, number)
                if found is not None:
                    self.assertEqual((found.power(number), is_true(found)), (table, True))

    def test_by_one(self):
        for table in tables() + [Table.of(LONG, 4)]:
            self.assertEqual(root(table, 1), table)
            self.assertEqual(root_paper(table, 1), ("root", table.entries))

    def test_the_unit_table(self):
        for letters, depth in KINDS:
            table = Table.unit(letters, depth)
            for number in (1, 2, LONGEST):
                self.assertEqual([root(table, number), root_paper(table, number)], [table, ("root", table.entries)])

    def test_many_digits(self):
        table = by_exponents("ab", 3, (LONGEST, -LONGEST, 10 ** 150, 7, LONGEST))
        self.assertEqual(root(table.power(LONGEST), LONGEST), table)
        self.assertIs(root(table, 10 ** 199), None)
        self.assertEqual(root_paper(table, 10 ** 199), ("bar", "a", LONGEST, 10 ** 199))
        self.assertIs(is_root_paper(table, 10 ** 199, root_paper(table, 10 ** 199)), True)


class Greatest(unittest.TestCase):
    def test_divisors_alone(self):
        for table in tables():
            if any(table.entries):
                found, most = greatest_root(table)
                self.assertEqual((found.power(most), is_true(found)), (table, True))
                for number in range(1, 40):
                    self.assertEqual(root(table, number) is not None, most % number == 0)

    def test_powers(self):
        for number in (2, 3, 7, 720720, 10 ** 100, LONGEST):
            for table in (Table.of(TWO, 3), Table.of(SWAP, 3), ~Table.of(SWAP, 2), LEAN, Table.of(FAR * TWO, 4)):
                self.assertEqual(greatest_root(table.power(number)), (table, number))
                self.assertEqual(greatest_root(table.power(-number)), (~table, number))

    def test_common_divisors_without_roots(self):
        # The entries at the first level are even, those at the second one are not what a root has.
        for numbers, most in (((2, 0, 1), 1), ((6, 0, 3), 3), ((12, 24, 12), 12), ((12, 24, 4), 4), ((0, 0, 8), 8)):
            table = by_exponents("ab", 2, numbers)
            found, number = greatest_root(table)
            self.assertEqual((number, found.power(number)), (most, table))
        table = by_exponents("ab", 3, (0, 0, 6, 4, 2))
        self.assertEqual(greatest_root(table), (by_exponents("ab", 3, (0, 0, 3, 2, 1)), 2))

    def test_of_words(self):
        self.assertEqual(greatest_root(Table.of(FAR, 1)), (Table("ab", 1, (5 * 10 ** 29, -1)), 2))
        self.assertEqual(greatest_root(Table.of(Word("ab", (("b", -LONGEST),)), 3))[1], LONGEST)


class Papers(unittest.TestCase):
    def test_any_leading_pattern_that_bars(self):
        table = by_exponents("ab", 3, (3, 5, 1, 0, 2))
        parts = slow_root(table, 2)
        for pattern in leading_of("ab", 3):
            value = ("bar", pattern, parts[pattern].numerator, parts[pattern].denominator)
            self.assertEqual(is_root_paper(table, 2, value), parts[pattern].denominator > 1)
        self.assertEqual([parts[p].denominator > 1 for p in ("a", "b", "ab", "aab", "abb")], [True] * 5)

    def test_wrong_papers(self):
        table = Table.of(Word.of("ab", "aaab"), 2)
        self.assertEqual(slow_root(table, 2)["a"], Fraction(3, 2))
        for value in (
            ("bar", "a", 6, 4), ("bar", "a", -3, -2), ("bar", "a", 3, 1), ("bar", "b", 1, 3), ("bar", "aa", 3, 8),
            ("bar", "ba", 1, 2), ("bar", "a", 3, True), ("bar", "a", 3), ["bar", "a", 3, 2], ("root", "a", 3, 2),
            ("bar", "a", 3, 2, 1), ("bar", "aab", 1, 2), ("bar", "", 1, 2), ("bar", "c", 1, 2), (), ("root",),
            ("root", table.entries), ("root", (1,) * 6), ("root", ()), None, True, "bar",
        ):
            self.assertIs(is_root_paper(table, 2, value), False)
        self.assertIs(is_root_paper(table, 2, ("bar", "a", 3, 2)), True)
        self.assertIs(is_root_paper(table, 2, ("bar", "b", 1, 2)), True)
        # Where there is a root, nothing bars.
        for value in (("bar", "a", 2, 1), ("bar", "ab", 1, 2), ("bar", "a", 4, 2)):
            self.assertIs(is_root_paper(Table.of(TWO, 2).power(2), 2, value), False)

    def test_the_other_word_and_other_entries(self):
        even = Table.of(TWO, 2).power(2)
        entries = Table.of(TWO, 2).entries
        self.assertIs(is_root_paper(even, 2, ("root", entries)), True)
        for value in (("bar", entries), ("", entries), (True, entries), ("root", (2, 1, 1, 2, 0, 1)), ("root", even.entries)):
            self.assertIs(is_root_paper(even, 2, value), False)
        # There is no root by 2, but fractions that are made less have these integers.
        table = Table.of(Word.of("ab", "aaab"), 1)
        for entries in ((1, 0), (1, 1), (2, 0), (2, 1)):
            self.assertIs(is_root_paper(table, 2, ("root", entries)), False)

    def test_true_is_not_one(self):
        table = Table.of(Word.of("ab", "aabb"), 1)
        self.assertIs(is_root_paper(table, 2, ("root", (1, 1))), True)
        for value in (("root", (True, 1)), ("root", [1, 1]), ["root", (1, 1)], ("root", (1, 1), 1), ("root", (1,))):
            self.assertIs(is_root_paper(table, 2, value), False)
        odd = Table.of(Word.of("ab", "a"), 1)
        self.assertIs(is_root_paper(odd, 2, ("bar", "a", 1, 2)), True)
        self.assertIs(is_root_paper(odd, 2, ("bar", "a", True, 2)), False)

    def test_two_hundred_digits(self):
        for number, right in ((LONGEST, True), (TOO_LONG, False)):
            table = Table.of(Word("ab", (("a", LONGEST),)), 1) * Table.of(Word("ab", (("a", number - LONGEST),)), 1)
            self.assertEqual(is_root_paper(table.power(3), 3, ("root", (number, 0))), right)
            self.assertEqual(root(table.power(3), 3), table)
            long = Table("ab", 1, (LONGEST, 0)) * Table("ab", 1, (number - LONGEST, 0))
            self.assertEqual(root_paper(long, 7), ("bar", "a", number, 7))
            self.assertEqual(is_root_paper(long, 7, ("bar", "a", number, 7)), right)

    def test_bars_of_integers_that_can_be_passed(self):
        # The fraction at the first leading pattern that bars is too long, that at the last one is not.
        table = Table("ab", 1, (LONGEST, 0)) * Table("ab", 1, (2, 1))
        self.assertEqual(root_paper(table, 4), ("bar", "b", 1, 4))
        self.assertIs(is_root_paper(table, 4, root_paper(table, 4)), True)

    def test_values_of_all_kinds(self):
        for value in all_kinds():
            for table in (LEAN, Table.of(SWAP, 2)):
                self.assertIs(is_root_paper(table, 2, value), False)
                for word in ("root", "bar"):
                    self.assertIs(is_root_paper(table, 2, (word, value)), False)
                    right = word == "bar" and shown(value) == shown("ab")
                    self.assertIs(is_root_paper(table, 2, (word, value, 1, 2)), right)
                self.assertIs(is_root_paper(table, 2, ("bar", "ab", value, 2)), shown(value) == shown(1))
                self.assertIs(is_root_paper(table, 2, ("bar", "ab", 1, value)), shown(value) == shown(2))

    def test_the_papers_are_right(self):
        for table in tables():
            for number in (1, 2, 3, 5, 10 ** 20):
                self.assertIs(is_root_paper(table, number, root_paper(table, number)), True)


class Wrong(Arguments):
    def test_arguments(self):
        self.check(greatest_root, TABLE)
        for call in (root, root_paper):
            self.check(call, TABLE, NUMBER)
        self.check(lambda table, number: is_root_paper(table, number, None), TABLE, NUMBER)

    def test_tables_that_are_not_true(self):
        for table in [ODD, SLY] + some_tables("ab", 3, 4, 1) + some_tables("abc", 2, 3, 2):
            for call, values in ((greatest_root, ()), (root, (2,)), (root_paper, (2,)), (is_root_paper, (2, None))):
                error = self.refused(NotTrue, call, table, *values)
                self.assertEqual((error.one, error.other), first_fault(table))
                if values:
                    self.refused(InvalidNumber, call, table, 0, *values[1:])

    def test_the_unit_table_has_no_greatest_root(self):
        for letters, depth in KINDS:
            self.refused(InvalidOperation, greatest_root, Table.unit(letters, depth))
        self.refused(NotTrue, greatest_root, Table.unit("ab", 2).with_entry("ba", 1))
