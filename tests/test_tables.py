"""Point 0.10 and stage 5: tables, their products, powers and entries."""

import itertools
import math
import unittest

from signedcounts.base.names import is_integer, is_letters, is_pattern
from signedcounts.count.counts import count
from signedcounts.errors import InvalidLetters, InvalidNumber, InvalidOperation, InvalidPattern, InvalidWord
from signedcounts.pattern.leading import patterns_of
from signedcounts.table.tables import Table
from signedcounts.word.words import Word
from checks import Arguments, Kind
from values import (
    EMPTY, FAR, LONG, LONGEST, ODD, SWAP, TOO_LONG, TWO, all_but, all_kinds, is_table, is_word, shown, some_tables,
    some_words, within,
)

LETTERS = Kind(InvalidLetters, is_letters, ["ab"], ["ba", "aa"])
WORD = Kind(InvalidWord, is_word, [SWAP])
DEPTH = Kind(InvalidNumber, within(1, 5), [2], [0, 6])
NUMBER = Kind(InvalidNumber, is_integer, [5])
ENTRIES = Kind(
    InvalidOperation, lambda value: False, [(1, 2, 3, 4, 5, 6)],
    [(1,) * 5, (1,) * 7, [1] * 6, (1,) * 5 + (True,), (1,) * 5 + (TOO_LONG,), (None,) * 6, "123456", ((1,) * 6,)],
)
PLACE = Kind(
    InvalidPattern, lambda value: is_pattern("ab", value) and 1 <= len(value) <= 3, ["ab"], ["", "aaaa", "A", "c"],
)


def entries_of(table):
    return dict(zip(("",) + patterns_of(table.letters, table.depth), (1,) + table.entries))


def slow_product(one, other):
    """The numbers of the product, by its definition, of dicts by patterns."""
    return {
        pattern: sum(one[pattern[:at]] * other[pattern[at:]] for at in range(len(pattern) + 1)) for pattern in one
    }


def tables():
    told = [ODD, Table.of(SWAP, 3), Table.of(TWO, 5), Table.of(FAR, 4), Table.of(LONG, 2), Table.unit("ab", 3)]
    told += some_tables("ab", 3, 3, 1) + some_tables("abc", 2, 2, 2) + some_tables("a", 5, 3, 3)
    return told + some_tables("xyz", 5, 1, 4) + some_tables("ab", 5, 2, 5, -10 ** 40, 10 ** 40)


class Examples(unittest.TestCase):
    def test_first(self):
        told = [
            Table.of(SWAP, 3).entries, Table.of(TWO, 2)["ab"], Table.of(TWO, 2).power(10 ** 20)["a"],
            (~Table.of(TWO, 2)).entries == Table.of(~TWO, 2).entries, Table.of(SWAP, 1) == Table.unit("ab", 1),
        ]
        self.assertEqual(told, [
            (0, 0, 0, 1, -1, 0, 0, 0, -1, -1, 1, 1, 0, 0), 2, 200000000000000000000, True, True,
        ])

    def test_second(self):
        odd = Table("ab", 2, (1, 1, 0, 0, 0, 0))
        told = [
            (odd * odd).entries, (~odd).entries, odd["ab"],
            odd.with_entry("ab", 1) == Table.of(Word.of("ab", "ab"), 2), str(odd), len(odd),
            Table.of(SWAP, 3).cut(2)["ba"],
        ]
        self.assertEqual(told, [
            (2, 2, 1, 1, 1, 1), (-1, -1, 1, 1, 1, 1), 0, True, "table of depth 2 over ab", 6, -1,
        ])


class Making(unittest.TestCase):
    def test_of_words(self):
        words = some_words("ab", 12, 1) + some_words("abc", 4, 2) + some_words("z", 6, 3) + [EMPTY, SWAP, FAR, LONG]
        for word in words:
            for depth in (1, 2, 3, 4, 5):
                table = Table.of(word, depth)
                self.assertEqual([table.letters, table.depth], [word.letters, depth])
                for pattern in patterns_of(word.letters, depth)[::5]:
                    self.assertEqual(table[pattern], count(word, pattern))
                told = tuple(count(word, pattern) for pattern in patterns_of(word.letters, min(depth, 3)))
                self.assertEqual(table.entries[:len(told)], told)

    def test_unit(self):
        for letters in ("a", "ab", "abc"):
            for depth in (1, 2, 3, 4, 5):
                unit = Table.unit(letters, depth)
                self.assertEqual(unit, Table.of(Word(letters, ()), depth))
                self.assertEqual(unit.entries, (0,) * len(patterns_of(letters, depth)))
                self.assertEqual([unit.letters, unit.depth], [letters, depth])

    def test_properties_and_kinds(self):
        for table in tables():
            self.assertIs(table.entries.__class__, tuple)
            self.assertEqual({entry.__class__ for entry in table.entries}, {int})
            self.assertEqual([table.letters.__class__, table.depth.__class__], [str, int])
            self.assertEqual(len(table), len(patterns_of(table.letters, table.depth)))
            self.assertEqual(str(table), f"table of depth {table.depth} over {table.letters}")

    def test_entries_of_two_hundred_digits(self):
        entries = (LONGEST, -LONGEST, 0, LONGEST, 1, -1)
        self.assertEqual(Table("ab", 2, entries).entries, entries)
        self.assertEqual(Table("a", 5, (1, 2, 3, 4, 5)).entries, (1, 2, 3, 4, 5))

    def test_longer_entries_come_of_tables(self):
        table = Table("ab", 1, (LONGEST, -LONGEST))
        self.assertEqual((table * table).entries, (2 * LONGEST, -2 * LONGEST))
        self.assertEqual((table * table * ~table).entries, table.entries)
        self.assertEqual(table.power(LONGEST).entries, (LONGEST ** 2, -LONGEST ** 2))
        self.assertEqual(table.power(LONGEST).with_entry("a", 1).entries, (1, -LONGEST ** 2))
        self.assertEqual(Table.of(LONG, 3).cut(1).entries, (3, -LONGEST))
        word = Word("a", (("a", LONGEST), ("a", LONGEST)))
        self.assertEqual(Table.of(word, 2).entries, (2 * LONGEST, math.comb(2 * LONGEST, 2)))


class Entries(unittest.TestCase):
    def test_at_patterns(self):
        for table in tables():
            self.assertEqual(tuple(table[pattern] for pattern in patterns_of(table.letters, table.depth)), table.entries)
            self.assertEqual(table[""], 1)

    def test_with_entry(self):
        for table in tables()[:10]:
            for pattern in patterns_of(table.letters, table.depth)[::3]:
                told = table.with_entry(pattern, -7)
                wanted = entries_of(table)
                wanted[pattern] = -7
                self.assertEqual([entries_of(told), told.letters, told.depth], [wanted, table.letters, table.depth])
                if is_integer(table[pattern]):
                    self.assertEqual(told.with_entry(pattern, table[pattern]), table)
        self.assertEqual(ODD.with_entry("bb", LONGEST)["bb"], LONGEST)

    def test_cut(self):
        for table in tables():
            for depth in range(1, table.depth + 1):
                told = table.cut(depth)
                self.assertEqual([told.letters, told.depth], [table.letters, depth])
                self.assertEqual(told.entries, table.entries[:len(patterns_of(table.letters, depth))])
            self.assertEqual(table.cut(table.depth), table)

    def test_tables_can_not_be_iterated_over(self):
        for table in (ODD, Table.unit("a", 1)):
            for call in (iter, list, tuple, lambda value: [entry for entry in value], lambda value: 1 in value):
                self.assertRaises(TypeError, call, table)


class Equality(unittest.TestCase):
    def test_equal_tables(self):
        for one, other in ((ODD, Table("ab", 2, (1, 1, 0, 0, 0, 0))), (Table.unit("ab", 2), Table.of(EMPTY, 2)),
                           (Table.of(Word.of("ab", "aabB"), 3), Table.of(Word.of("ab", "aa"), 3))):
            self.assertIs(one == other, True)
            self.assertIs(one != other, False)

    def test_unlike_tables(self):
        for one, other in (
            (ODD, ODD.with_entry("bb", 1)), (Table.unit("a", 1), Table.unit("b", 1)), (Table.unit("ab", 2), ODD),
            (Table("ab", 2, (0,) * 6), Table("a", 5, (0,) * 5)), (Table.unit("ab", 1), Table.unit("ab", 2)),
            (Table.unit("ab", 1), Table.unit("a", 2)),
        ):
            self.assertIs(one == other, False)
            self.assertIs(one != other, True)

    def test_every_value_is_accepted(self):
        for value in all_but(is_table) + [ODD.entries, list(ODD.entries), str(ODD)]:
            self.assertIs(ODD == value, False)
            self.assertIs(ODD != value, True)
        self.assertEqual(len([value for value in all_kinds() if value == ODD]), 1)


class Products(unittest.TestCase):
    def test_by_the_definition(self):
        for one, other in itertools.product(tables(), tables()):
            if one.letters == other.letters and one.depth == other.depth:
                product = one * other
                self.assertEqual(entries_of(product), slow_product(entries_of(one), entries_of(other)))
                self.assertEqual([product.letters, product.depth], [one.letters, one.depth])

    def test_of_words(self):
        for letters, many in (("ab", 8), ("abc", 4), ("a", 4)):
            words = some_words(letters, many, 9)
            for one, other in itertools.product(words, words):
                for depth in (1, 3, 5):
                    self.assertEqual(Table.of(one, depth) * Table.of(other, depth), Table.of(one * other, depth))

    def test_undone(self):
        for table in tables():
            unit = Table.unit(table.letters, table.depth)
            self.assertEqual([table * ~table, ~table * table, ~~table], [unit, unit, table])
        for word in some_words("ab", 10, 10):
            self.assertEqual(~Table.of(word, 4), Table.of(~word, 4))


class Powers(unittest.TestCase):
    def test_small_powers(self):
        for table in tables():
            power = Table.unit(table.letters, table.depth)
            for number in range(6):
                self.assertEqual([table.power(number), table.power(-number)], [power, ~power])
                power = power * table
            self.assertEqual(table.power(1), table)

    def test_powers_of_words(self):
        for word in some_words("ab", 8, 11, most=4) + some_words("abc", 3, 12, most=4):
            for number in (-7, -1, 0, 1, 2, 11):
                self.assertEqual(Table.of(word, 5).power(number), Table.of(word.power(number), 5))

    def test_powers_add_up(self):
        numbers = (0, 1, -1, 17, -10 ** 30, LONGEST, -LONGEST)
        for table in tables():
            for one, other in itertools.product(numbers, numbers):
                if abs(one + other) <= LONGEST:
                    self.assertEqual(table.power(one) * table.power(other), table.power(one + other))

    def test_by_the_formula(self):
        for table in tables()[:8]:
            rest = entries_of(table)
            rest[""] = 0
            for number in (-2, 3, LONGEST, -LONGEST):
                power = {pattern: int(pattern == "") for pattern in rest}
                total = {pattern: 0 for pattern in rest}
                for size in range(table.depth + 1):
                    ways = math.prod(number - at for at in range(size)) // math.factorial(size)
                    total = {pattern: total[pattern] + ways * power[pattern] for pattern in rest}
                    power = slow_product(power, rest)
                self.assertEqual(entries_of(table.power(number)), total)


class Wrong(Arguments):
    def test_arguments(self):
        self.check(Table, LETTERS, DEPTH, ENTRIES)
        self.check(Table.of, WORD, DEPTH)
        self.check(Table.unit, LETTERS, DEPTH)
        self.check(Table.of(SWAP, 3).power, NUMBER)
        self.check(Table.of(SWAP, 3).with_entry, PLACE, NUMBER)
        self.check(Table.of(SWAP, 3).cut, Kind(InvalidNumber, within(1, 3), [2], [0, 4, 5]))

    def test_patterns_in_brackets(self):
        for pattern in all_but(lambda value: is_pattern("ab", value) and len(value) <= 3) + ["aaaa", "abc", "B"]:
            self.refused(InvalidPattern, lambda value: Table.of(SWAP, 3)[value], pattern)

    def test_other_operand(self):
        for table in (ODD, Table.unit("ab", 2)):
            for value in all_but(lambda value: is_table(value) and (value.letters, value.depth) == ("ab", 2)):
                self.refused(InvalidOperation, lambda other, own=table: own * other, value)
        self.refused(InvalidOperation, lambda one, other: one * other, SWAP, ODD)

    def test_a_greater_depth(self):
        for depth in (0, 3, 5, -1, True):
            self.refused_number(ODD.cut, depth)
        self.assertEqual(Table.unit("ab", 1).cut(1), Table.unit("ab", 1))
        self.refused_number(Table.unit("ab", 1).cut, 2)

    def test_entries(self):
        for entry in all_but(is_integer):
            self.refused(InvalidOperation, Table, "a", 2, (entry, 1))
            self.refused(InvalidOperation, Table, "a", 2, (1, entry))
        for entries in ((1, True), (TOO_LONG, 0), (0, -TOO_LONG), (1,), (1, 2, 3), [1, 2], {0: 1, 1: 2}, "ab"):
            self.refused(InvalidOperation, Table, "a", 2, entries)
        long = Table("a", 1, (LONGEST,)).power(2)
        self.refused(InvalidOperation, Table, "a", 1, long.entries)

    def test_numbers_of_201_digits(self):
        for number in (TOO_LONG, -TOO_LONG):
            self.refused_number(ODD.power, number)
            self.refused_number(lambda value: ODD.with_entry("a", value), number)

    def test_attributes_can_not_be_assigned(self):
        for name in ("letters", "depth", "entries"):
            with self.assertRaises(AttributeError):
                setattr(ODD, name, ())

    def test_two_wrong_arguments_of_with_entry(self):
        self.refused(InvalidPattern, ODD.with_entry, "", True)
        self.refused(InvalidPattern, ODD.with_entry, "aaa", None)
        self.assertEqual(shown(ODD), shown(Table("ab", 2, (1, 1, 0, 0, 0, 0))))
