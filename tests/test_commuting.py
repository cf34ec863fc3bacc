"""Points 12.1 and 12.2: the level and the core of tables, and what commutes."""

import random
import unittest

from signedcounts.errors import InvalidOperation, InvalidTable, InvalidWord, NotTrue
from signedcounts.pattern.leading import leading_of, patterns_of
from signedcounts.power.roots import greatest_root
from signedcounts.table.brackets import bracket_of, by_exponents, exponents
from signedcounts.table.tables import Table
from signedcounts.table.truth import first_fault, is_true
from signedcounts.turn.commuting import (
    commuting_parts, core, do_commute, do_words_commute, table_level, word_root,
)
from signedcounts.word.words import Word
from checks import Arguments, Kind
from values import (
    A, B, EMPTY, FAR, LEAN, LONG, LONGEST, ODD, SLY, SWAP, TEXTS, TWO, alternating, is_table, is_word,
    reduced_text, some_tables, some_words, true_tables,
)

TABLE = Kind(InvalidTable, is_table, [LEAN])
WORD = Kind(InvalidWord, is_word, [SWAP])
KINDS = (("a", 4), ("ab", 1), ("ab", 3), ("ab", 5), ("abc", 3))


def slow_level(table):
    sizes = [len(pattern) for pattern in patterns_of(table.letters, table.depth) if table[pattern] != 0]
    return min(sizes) if sizes else None


def tables():
    found = [LEAN, Table.of(SWAP, 3), Table.of(SWAP, 4), Table.of(FAR, 5), Table.of(TWO, 4)]
    for letters, depth in KINDS:
        for least in range(1, depth + 1):
            found.extend(true_tables(letters, depth, 2, 7 * depth + least, least))
            found.extend(table.power(6) for table in true_tables(letters, depth, 1, depth + least, least))
    return [table for table in found if any(table.entries)]


def slow_root(text):
    """The text, and the number, by all stretches of the shortest text without what turns it."""
    middle = reduced_text(text)
    ahead = ""
    while len(middle) > 1 and middle[0] == middle[-1].swapcase():
        ahead, middle = ahead + middle[0], middle[1:-1]
    for size in range(1, len(middle) + 1):
        if middle == middle[:size] * (len(middle) // size):
            return reduced_text(ahead + middle[:size] + ahead[::-1].swapcase()), len(middle) // size


class Examples(unittest.TestCase):
    def test_first(self):
        told = [
            table_level(Table.of(SWAP, 3)), table_level(Table.unit("ab", 2)), do_commute(LEAN, Table.of(A, 2)),
            do_commute(Table.of(A, 2), Table.of(B, 2)), do_commute(Table.of(TWO, 2), Table.of(SWAP, 2)),
        ]
        self.assertEqual(told, [2, None, True, False, True])

    def test_second(self):
        told = [
            core(LEAN) == Table.of(A, 2), core(Table.of(SWAP, 2)) == Table.unit("ab", 2),
            commuting_parts(LEAN, Table.of(A.power(3) * SWAP.power(5), 2)) == (3, Table.of(SWAP.power(5), 2)),
            commuting_parts(LEAN, Table.of(B, 2)),
        ]
        self.assertEqual(told, [True, True, True, None])

    def test_third(self):
        told = [
            do_words_commute(TWO.power(2), ~TWO), do_words_commute(A, SWAP), word_root(A.power(-6)) == (~A, 6),
            word_root(TWO.power(3).turned(B)) == (TWO.turned(B), 3),
        ]
        self.assertEqual(told, [True, False, True, True])


class Levels(unittest.TestCase):
    def test_levels(self):
        for table in tables() + [ODD, SLY] + some_tables("ab", 3, 5, 1):
            self.assertEqual(table_level(table), slow_level(table))
        for letters, depth in KINDS:
            self.assertIs(table_level(Table.unit(letters, depth)), None)
        self.assertEqual(table_level(Table.unit("ab", 5).with_entry("babab", -LONGEST)), 5)
        self.assertEqual(table_level(Table.of(bracket_of("ab", "aabb"), 5)), 4)
        # The level is that of all patterns, the leading ones among them.
        self.assertEqual(table_level(Table.unit("ab", 3).with_entry("ba", 1)), 2)


class Commute(unittest.TestCase):
    def test_by_the_products(self):
        every = some_tables("ab", 2, 6, 2, -1, 1) + [ODD, Table.unit("ab", 2), LEAN, Table.of(FAR, 2), ODD.power(-3)]
        for one in every:
            for other in every:
                self.assertEqual(do_commute(one, other), one * other == other * one)
        self.assertEqual([do_commute(ODD, ODD.power(10 ** 40)), do_commute(ODD, Table.of(A, 2))], [True, False])


class Cores(unittest.TestCase):
    def test_the_core(self):
        for table in tables():
            first, depth = table_level(table), table.depth
            found = core(table)
            self.assertEqual((found.letters, found.depth, is_true(found)), (table.letters, depth, True))
            if 2 * first > depth:
                self.assertEqual(found, Table.unit(table.letters, depth))
                continue
            self.assertEqual(found.cut(depth - first), greatest_root(table.cut(depth - first))[0])
            for pattern, number in zip(leading_of(table.letters, depth), exponents(found)):
                if len(pattern) > depth - first:
                    self.assertEqual(number, 0)

    def test_a_core_that_is_no_root(self):
        self.assertEqual(core(LEAN), Table.of(A, 2))
        self.assertEqual([number for number in range(-9, 10) if core(LEAN).power(number) == LEAN], [])
        table = by_exponents("ab", 4, (0, 0, 6, 0, 0, 1, 0, 2))
        self.assertEqual(core(table), by_exponents("ab", 4, (0, 0, 1, 0, 0, 0, 0, 0)))

    def test_more_than_half_of_the_depth(self):
        for table in (Table.of(SWAP, 2), Table.of(SWAP, 3), Table.of(bracket_of("ab", "aab"), 5)):
            self.assertEqual(core(table), Table.unit("ab", table.depth))
        self.assertEqual(core(Table("ab", 1, (4, 6))), Table.unit("ab", 1))
        self.assertEqual(core(Table.of(SWAP.power(5), 4)), Table.of(SWAP, 4))

    def test_far_exponents(self):
        table = by_exponents("ab", 3, (6 * 10 ** 199, -4 * 10 ** 199, 2 * 10 ** 199, 1, 5))
        found = core(table)
        self.assertEqual(exponents(found)[3:], (0, 0))
        self.assertEqual(found.cut(2).power(greatest_root(table.cut(2))[1]), table.cut(2))


class Parts(unittest.TestCase):
    def test_parts_of_what_commutes(self):
        source = random.Random(5)
        for table in tables():
            found, depth, first = core(table), table.depth, table_level(table)
            if not any(found.entries):
                rest = true_tables(table.letters, depth, 1, 6, depth - first + 1)[0]
                self.assertEqual(commuting_parts(table, rest), (0, rest))
                continue
            for number in (0, 1, -1, source.randint(-9, 9), 10 ** 30):
                for least in (depth - first + 1, depth + 1):
                    rest = true_tables(table.letters, depth, 1, number % 97, least)[0]
                    other = found.power(number) * rest
                    self.assertIs(do_commute(table, other), True)
                    self.assertEqual(commuting_parts(table, other), (number, rest))

    def test_all_that_commutes(self):
        # Each table that commutes has such parts, and each one that does not has none.
        for table in tables():
            for other in true_tables(table.letters, table.depth, 4, 8, 1, 1) + [table, ~table, table.power(3)]:
                parts = commuting_parts(table, other)
                self.assertEqual(parts is not None, table * other == other * table)
                if parts is not None:
                    number, rest = parts
                    self.assertEqual((core(table).power(number) * rest, is_true(rest)), (other, True))
                    self.assertIn(table_level(rest), [None] + list(range(table.depth - table_level(table) + 1, 6)))

    def test_powers_of_a_root(self):
        for word in (TWO, SWAP, Word.of("ab", "aabAB")):
            table = Table.of(word, 4)
            one, other = table.power(-6), table.power(10 ** 50)
            number, rest = commuting_parts(one, other)
            self.assertEqual(core(one).power(number) * rest, other)
            self.assertEqual(abs(number), 10 ** 50)

    def test_numbers_longer_than_passed_ones(self):
        table = Table("ab", 2, Table.of(Word.of("ab", "ab"), 2).entries)
        other = table.power(LONGEST).power(LONGEST)
        self.assertEqual(commuting_parts(table, other)[0], LONGEST * LONGEST)

    def test_the_unit_table(self):
        for table in tables():
            unit = Table.unit(table.letters, table.depth)
            self.assertEqual(commuting_parts(table, unit), (0, unit))
            self.assertRaises(InvalidOperation, commuting_parts, unit, table)


class Words(unittest.TestCase):
    def test_by_the_products(self):
        every = some_words("ab", 15, 3, 4) + [EMPTY, A, B, SWAP, ~SWAP, SWAP.power(2), TWO, FAR, LONG, ~LONG, TWO.power(40)]
        for one in every:
            for other in every:
                try:
                    commute = one * other == other * one
                except OverflowError:
                    continue
                self.assertEqual(do_words_commute(one, other), commute)
            self.assertEqual([do_words_commute(one, EMPTY), do_words_commute(one, ~one)], [True, True])

    def test_products_of_many_runs(self):
        full = Word("ab", alternating(200))
        self.assertIs(do_words_commute(full, full), True)
        self.assertIs(do_words_commute(full, Word("ab", alternating(200, "ba"))), False)
        self.assertIs(do_words_commute(full, full * ~TWO), False)
        self.assertIs(do_words_commute(Word("ab", alternating(140)), Word("ab", alternating(160))), True)

    def test_roots_by_the_texts(self):
        for text in TEXTS + ["abABabAB", "aabAAbaBaa" * 2, "aabaab", "BaabaaBaabaabb", "abbaabbaab"]:
            word = Word.of("ab", text)
            if len(word) > 0:
                found, number = word_root(word)
                self.assertEqual((found.shortest(), number), slow_root(text))
                self.assertEqual(found.power(number), word)

    def test_roots_of_turned_powers(self):
        for word in some_words("ab", 10, 4, 5) + [TWO, SWAP, FAR, LONG, A]:
            if len(word) == 0:
                continue
            root, most = word_root(word)
            for number in (1, 2, 3, 10, -1, -4):
                for other in some_words("ab", 4, 5, 6) + [FAR, B]:
                    turned = word.power(number).turned(other)
                    wanted = root.turned(other) if number > 0 else (~root).turned(other)
                    self.assertEqual(word_root(turned), (wanted, most * abs(number)))

    def test_one_run(self):
        for number in (1, 10 ** 30, LONGEST):
            word = Word("abc", (("b", -number),))
            self.assertEqual(word_root(word), (Word.of("abc", "B"), number))
            self.assertEqual(word_root(~word), (Word.of("abc", "b"), number))
            turned = word.turned(Word("abc", (("a", LONGEST), ("c", -1))))
            self.assertEqual(word_root(turned)[0].runs[2], ("b", -1))
            self.assertEqual((word_root(turned)[1], len(word_root(turned)[0])), (number, 5))
        long = Word("a", (("a", LONGEST),)).power(400)
        self.assertEqual(word_root(long), (Word.of("a", "a"), 400 * LONGEST))

    def test_ends_with_the_same_letter(self):
        # The ends belong together, and just as many of their letters stand in each root.
        word = Word("ab", (("a", 5), ("b", 1), ("a", 2), ("b", 1), ("a", -3)))
        self.assertEqual(word_root(word), (Word("ab", (("a", 5), ("b", 1), ("a", -3))), 2))
        other = Word("ab", (("a", 5), ("b", 1), ("a", 2), ("b", 1), ("a", 3)))
        self.assertEqual(word_root(other), (other, 1))
        self.assertEqual(word_root(Word("ab", alternating(200))), (Word.of("ab", "ab"), 100))


class Wrong(Arguments):
    def test_arguments(self):
        for call in (table_level, core):
            self.check(call, TABLE)
        for call in (do_commute, commuting_parts):
            self.check(call, TABLE, TABLE)
        self.check(do_words_commute, WORD, WORD)
        self.check(word_root, WORD)

    def test_tables_of_unlike_kinds(self):
        for other in (Table.of(SWAP, 3), Table.of(A.over("abc"), 2), Table.unit("ab", 1), Table.unit("a", 2), SLY):
            for call in (do_commute, commuting_parts):
                self.refused(InvalidOperation, call, LEAN, other)
                self.refused(InvalidOperation, call, other, LEAN)
                self.refused(InvalidOperation, call, ODD, other)
        self.refused(InvalidOperation, do_words_commute, SWAP, A.over("abc"))

    def test_tables_that_are_not_true(self):
        for table in [ODD] + some_tables("ab", 2, 5, 6):
            fault = first_fault(table)
            for call, values in ((core, (table,)), (commuting_parts, (table, LEAN)), (commuting_parts, (LEAN, table))):
                error = self.refused(NotTrue, call, *values)
                self.assertEqual((error.one, error.other), fault)
            unit = Table.unit("ab", 2)
            error = self.refused(NotTrue, commuting_parts, unit, table)
            self.assertEqual((error.one, error.other), fault)
        one, other = Table.unit("ab", 2).with_entry("bb", 1), Table.unit("ab", 2).with_entry("aa", 1)
        for first, second in ((one, other), (other, one)):
            error = self.refused(NotTrue, commuting_parts, first, second)
            self.assertEqual((error.one, error.other), first_fault(first))

    def test_the_unit_table_and_the_empty_word(self):
        for letters, depth in KINDS:
            self.refused(InvalidOperation, core, Table.unit(letters, depth))
            self.refused(InvalidOperation, commuting_parts, Table.unit(letters, depth), Table.unit(letters, depth))
        self.refused(InvalidOperation, word_root, EMPTY)


if __name__ == "__main__":
    unittest.main()
