"""Points 0.11, 0.13, 0.14 and stage 7: true tables, faults, papers."""

import itertools
import unittest

from signedcounts.errors import InvalidTable
from signedcounts.pattern.leading import leading_of, patterns_of
from signedcounts.table.brackets import by_exponents, exponents, leading_values
from signedcounts.table.overlays import does_follow
from signedcounts.table.tables import Table
from signedcounts.table.truth import first_fault, is_fault, is_paper, is_true, mended, paper
from signedcounts.word.words import Word
from checks import Arguments, Kind
from values import (
    EMPTY, FAR, LONG, LONGEST, ODD, SLY, SWAP, TOO_LONG, TWO, all_kinds, is_table, shown, some_tables, some_words,
)

TABLE = Kind(InvalidTable, is_table, [ODD])


def true_tables():
    told = [Table.of(word, depth) for word in (EMPTY, SWAP, TWO, FAR, LONG) for depth in (1, 2, 3, 4, 5)]
    told += [Table.of(word, 3) for word in some_words("ab", 6, 1) + some_words("abc", 6, 2)]
    return told + [Table.of(word, 5) for word in some_words("a", 3, 3) + some_words("abc", 2, 4)]


def other_tables():
    told = [ODD, SLY, Table("a", 2, (1, 1)), Table.of(LONG, 2).with_entry("ba", 5)]
    return told + some_tables("ab", 2, 6, 5) + some_tables("ab", 4, 4, 6) + some_tables("abc", 3, 3, 7)


def all_faults(table):
    """The faults, by their definition, with the first one ahead."""
    patterns = patterns_of(table.letters, table.depth)
    order = {pattern: at for at, pattern in enumerate(patterns)}
    found = [
        (one, other) for one, other in itertools.product(patterns, patterns)
        if len(one) + len(other) <= table.depth and not does_follow(table, one, other)
    ]
    return sorted(found, key=lambda pair: (
        order[pair[0]] > order[pair[1]], len(pair[0] + pair[1]), order[pair[0]], order[pair[1]],
    ))


class Examples(unittest.TestCase):
    def test_first(self):
        told = [
            is_true(Table.of(SWAP, 3)), is_true(ODD), first_fault(ODD), first_fault(Table.of(FAR, 5)),
            is_fault(ODD, ("b", "a")), is_fault(ODD, ("a", "a")),
        ]
        self.assertEqual(told, [True, False, ("a", "b"), None, True, False])

    def test_second(self):
        told = [
            mended(ODD) == Table.of(Word.of("ab", "ba"), 2), mended(Table.of(TWO, 3)) == Table.of(TWO, 3),
            paper(Table.of(TWO, 2)), paper(ODD)[0], is_paper(ODD, ("fault", "b", "a")),
            is_paper(Table.of(SWAP, 2), ("word", (0, 0, 1))),
        ]
        self.assertEqual(told, [True, True, ("word", (2, 1, 0)), "fault", True, True])


class Truth(unittest.TestCase):
    def test_tables_of_words(self):
        for table in true_tables():
            self.assertIs(is_true(table), True)
            self.assertIs(first_fault(table), None)

    def test_tables_of_depth_one(self):
        for table in some_tables("ab", 1, 5, 1) + some_tables("abc", 1, 3, 2) + [Table("a", 1, (LONGEST,))]:
            self.assertEqual([is_true(table), first_fault(table), mended(table)], [True, None, table])
            self.assertEqual(paper(table), ("word", table.entries))

    def test_tables_of_one_letter(self):
        for entries, fault in (
            ((3, 3, 1), None), ((3, 3, 2), ("a", "aa")), ((3, 4, 1), ("a", "a")), ((-1, 1, -1), None),
            ((0, 0, 1), ("a", "aa")), ((2, 1, 0, 0, 0), None), ((2, 1, 0, 0, 1), ("a", "aaaa")),
        ):
            table = Table("a", len(entries), entries)
            self.assertEqual([first_fault(table), is_true(table)], [fault, fault is None])

    def test_one_entry_changed(self):
        for word, depth in ((SWAP, 3), (TWO, 4), (FAR, 2), (Word.of("abc", "abCa"), 3)):
            table = Table.of(word, depth)
            for pattern in patterns_of(word.letters, depth):
                if len(pattern) < depth or pattern not in leading_of(word.letters, depth):
                    value = table[pattern] + 1
                else:
                    value = table[pattern] - 1
                changed = table.with_entry(pattern, value)
                self.assertIs(is_true(changed), depth == 1)
                self.assertEqual(first_fault(changed), all_faults(changed)[0])

    def test_leading_entries_are_not_free_where_the_others_stay(self):
        table = Table.of(TWO, 3)
        for pattern in leading_of("ab", 3):
            changed = table.with_entry(pattern, table[pattern] + 1)
            self.assertIs(is_true(changed), False)
            self.assertEqual(leading_values(mended(changed)), leading_values(changed))
            self.assertIs(is_true(mended(changed)), True)

    def test_the_rule_for_single_letters_is_not_enough(self):
        for one in "ab":
            for other in patterns_of("ab", 3):
                self.assertIs(does_follow(SLY, one, other), True)
        self.assertEqual([is_true(SLY), first_fault(SLY)], [False, ("ab", "ab")])
        self.assertIs(is_true(SLY.cut(3)), True)

    def test_true_exactly_if_mended_is_the_same(self):
        for table in true_tables() + other_tables():
            self.assertIs(is_true(table), mended(table) == table)
            self.assertIs(is_true(table), len(all_faults(table)) == 0)

    def test_products_and_powers_of_true_tables(self):
        for one, other in itertools.product(true_tables()[:15:3], true_tables()[:15:3]):
            if one.depth == other.depth:
                self.assertTrue(is_true(one * other) and is_true(~one) and is_true(one.power(-10 ** 30)))


class Faults(unittest.TestCase):
    def test_first(self):
        for table in other_tables():
            faults = all_faults(table)
            self.assertEqual(first_fault(table), faults[0] if faults else None)

    def test_judged(self):
        for table in other_tables() + true_tables()[:12]:
            faults = all_faults(table)
            patterns = ("",) + patterns_of(table.letters, min(table.depth + 1, 3))
            for pair in itertools.product(patterns, patterns):
                self.assertIs(is_fault(table, pair), pair in faults)

    def test_other_values(self):
        for value in all_kinds():
            before = shown(value)
            self.assertIs(is_fault(ODD, value), False if value != ("a", "b") else True)
            self.assertEqual(shown(value), before)
        for value in (["a", "b"], ("a", "b", "a"), ("a",), (), ("a", ["b"]), (("a", "b"),), ("a", 1), ("a", True),
                      ("a", None), "ab", {"a": "b"}, ("", "ab"), ("a", ""), ("", ""), ("aa", "b"), ("a", "bb"),
                      ("a", "B"), ("a", "c"), ("a" * 401, "b"), ("a" * 400, "b" * 400), (SWAP, "b"), ("a", ODD)):
            self.assertIs(is_fault(ODD, value), False)

    def test_either_order(self):
        for pair in (("a", "b"), ("b", "a")):
            self.assertIs(is_fault(ODD, pair), True)
        table = Table.of(TWO, 3).with_entry("bab", 5)
        self.assertEqual([is_fault(table, ("b", "ab")), is_fault(table, ("ab", "b"))], [True, True])


class Mended(unittest.TestCase):
    def test_same_entries_at_leading_patterns(self):
        for table in other_tables() + true_tables():
            told = mended(table)
            self.assertEqual([told.letters, told.depth], [table.letters, table.depth])
            self.assertEqual(leading_values(told), leading_values(table))
            self.assertIs(is_true(told), True)

    def test_true_tables_stay(self):
        for table in true_tables():
            self.assertEqual(mended(table), table)

    def test_long_entries(self):
        table = Table("ab", 3, (LONGEST,) * 14).power(LONGEST)
        self.assertEqual([leading_values(mended(table)), is_true(mended(table))], [leading_values(table), True])


class Papers(unittest.TestCase):
    def test_true_tables(self):
        for table in true_tables():
            told = paper(table)
            self.assertEqual(told, ("word", exponents(table)))
            numbers = told[1]
            if all(abs(number) <= LONGEST for number in numbers):
                self.assertIs(is_paper(table, told), True)
                self.assertEqual(by_exponents(table.letters, table.depth, numbers), table)
            for fault in itertools.product(patterns_of(table.letters, 1), patterns_of(table.letters, 1)):
                self.assertIs(is_paper(table, ("fault",) + fault), False)

    def test_others(self):
        for table in other_tables():
            if is_true(table):
                continue
            told = paper(table)
            self.assertEqual(told, ("fault",) + first_fault(table))
            for fault in all_faults(table):
                self.assertIs(is_paper(table, ("fault",) + fault), True)
            numbers = exponents(mended(table))
            self.assertIs(is_paper(table, ("word", numbers)), False)

    def test_exponents_that_are_not_right(self):
        table = Table.of(Word.of("ab", "ba"), 3)
        right = exponents(table)
        self.assertEqual(right, (1, 1, -1, 1, -1))
        for numbers in (
            (1, 1, -1, 1), (1, 1, -1, 1, -1, 0), (), list(right), (True, 1, -1, 1, -1), (1, 1, -1, True, -1),
            (1, 1, -1, 1, 1), (1, 1, -1, 1, "-1"), (1, 1, -1, 1, None), 1, None, "word", {0: 1}, right + (TOO_LONG,),
        ):
            self.assertIs(is_paper(table, ("word", numbers)), False)
        for value in (
            ["word", right], ("word",), ("word", right, right), ("Word", right), (right,), right, ("fault", right),
            ("fault", "a"), ("fault", "a", "b", "a"), ("fault", ("a", "b")), (True, right), ("word",) + right, (),
        ):
            self.assertIs(is_paper(table, value), False)
        self.assertIs(is_paper(table, ("word", right)), True)

    def test_forms_of_faults(self):
        for value in (["fault", "a", "b"], ("fault", ("a", "b")), ("fault", "a"), ("fault", "a", "b", ""), ("a", "b"),
                      ("fault", "", "ab"), ("fault", "a", "c"), ("fault", "aa", "b"), ("fault", ["a"], "b"),
                      ("word", "a", "b"), ("fault", "a", "a"), ("fault", None, True)):
            self.assertIs(is_paper(ODD, value), False)
        self.assertEqual([is_paper(ODD, ("fault", "a", "b")), is_paper(ODD, ("fault", "b", "a"))], [True, True])

    def test_integers_of_200_and_201_digits(self):
        right = Table("ab", 1, (LONGEST, -LONGEST))
        self.assertEqual(paper(right), ("word", (LONGEST, -LONGEST)))
        self.assertIs(is_paper(right, ("word", (LONGEST, -LONGEST))), True)
        long = right * Table("ab", 1, (1, 0))
        self.assertEqual(paper(long), ("word", (TOO_LONG, -LONGEST)))
        self.assertIs(is_paper(long, ("word", (TOO_LONG, -LONGEST))), False)
        self.assertIs(is_paper(long, ("word", (LONGEST, -LONGEST))), False)

    def test_other_values(self):
        for value in all_kinds():
            before = shown(value)
            for table in (ODD, Table.of(SWAP, 3), Table.unit("a", 1)):
                self.assertIs(is_paper(table, value), False)
                for form in ("word", "fault"):
                    self.assertIs(is_paper(table, (form, value)), False)
                    self.assertIs(is_paper(table, (form, "a", value)), table == ODD and (form, value) == ("fault", "b"))
            self.assertEqual(shown(value), before)

    def test_true_and_false_are_no_numbers(self):
        table = Table.of(Word.of("ab", "a"), 1)
        told = [is_paper(table, ("word", numbers)) for numbers in ((1, 0), (True, 0), (1, False), (True, False))]
        self.assertEqual(told, [True, False, False, False])


class Wrong(Arguments):
    def test_arguments(self):
        for call in (is_true, first_fault, mended, paper):
            self.check(call, TABLE)
        for call in (is_fault, is_paper):
            for value in (("a", "b"), ("word", (1, 1)), None, ODD):
                self.check(lambda table, call=call, value=value: call(table, value), TABLE)
