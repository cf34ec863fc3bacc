"""Points 14.1 and 14.2: clubs of true tables."""

import itertools
import random
import unittest

from signedcounts.base.names import is_letters
from signedcounts.club.clubs import MAX_PLACES, Club
from signedcounts.errors import InvalidLetters, InvalidNumber, InvalidOperation, InvalidTable, NotTrue, TooMany
from signedcounts.pattern.leading import leading_of
from signedcounts.table.brackets import by_exponents, exponents
from signedcounts.table.tables import Table
from signedcounts.table.truth import first_fault
from signedcounts.word.words import Word
from checks import Arguments, Kind, Refusals
from values import (
    A, B, FAR, LEAN, LONGEST, ODD, SLY, SWAP, TWICE, TWO, all_but, all_kinds, is_club, is_table, shown, some_tables,
    true_tables, within,
)

LETTERS = Kind(InvalidLetters, is_letters, ["ab"], ["ba", "aa"])
DEPTH = Kind(InvalidNumber, within(1, 5), [2], [0, 6])
KINDS = (("a", 4), ("ab", 1), ("ab", 3), ("ab", 4), ("abc", 2), ("abc", 3))
SOME = Club("ab", 2, (TWICE, Table.of(B, 2)))


def tables_of(club):
    """The tables of the rows."""
    return [by_exponents(club.letters, club.depth, row) for row in club.rows]


def product(club, numbers):
    found = Table.unit(club.letters, club.depth)
    for table, number in zip(tables_of(club), numbers):
        found = found * table.power(number)
    return found


def first(row):
    return [number != 0 for number in row].index(True)


def clubs():
    """Clubs, each with the tables that it was made of."""
    found = [((), Club("ab", 2, ())), ((TWICE, Table.of(B, 2)), SOME), ((LEAN,), Club("ab", 2, (LEAN,)))]
    for letters, depth in KINDS:
        for many in (1, 2, 3):
            tables = tuple(true_tables(letters, depth, many, depth + many, 1, 4))
            powers = tuple(table.power(2 + many) for table in tables) + tuple(true_tables(letters, depth, 1, many, depth))
            found.extend((made, Club(letters, depth, made)) for made in (tables, powers))
    return found


CLUBS = clubs()


class Examples(unittest.TestCase):
    def test_first(self):
        some = Club("ab", 2, (TWICE, Table.of(B, 2)))
        told = [
            some.rows, some.parts, Table.of(SWAP, 2) in some, Table.of(SWAP.power(2), 2) in some,
            some.numbers(Table.of(Word.of("ab", "baa"), 2)), str(some), some.is_kept(),
        ]
        self.assertEqual(told, [
            ((2, 0, 0), (0, 1, 0), (0, 0, 2)), 4, False, True, (1, 1, -1), "club of 3 rows, depth 2 over ab", False])

    def test_second(self):
        some = SOME
        whole = Club("ab", 2, (Table.of(A, 2), Table.of(TWO, 2)))
        told = [
            whole.rows, whole.parts, Club("ab", 2, (LEAN,)).rows, Club("ab", 2, (LEAN,)).parts, some.is_within(whole),
            some.joined(Club("ab", 2, (Table.of(A, 2),))) == whole, some.turned(Table.of(A, 2)).rows,
        ]
        self.assertEqual(told, [
            ((1, 0, 0), (0, 1, 0), (0, 0, 1)), 1, ((2, 0, 1),), None, True, True, ((2, 0, 0), (0, 1, 1), (0, 0, 2))])


class Rows(unittest.TestCase):
    def test_form(self):
        self.assertEqual(MAX_PLACES, 14)
        for made, club in CLUBS:
            firsts = [first(row) for row in club.rows]
            self.assertEqual(firsts, sorted(set(firsts)))
            for at, row in zip(firsts, club.rows):
                self.assertEqual(len(row), len(leading_of(club.letters, club.depth)))
                self.assertGreaterEqual(row[at], 1)
                for later, other in zip(firsts, club.rows):
                    if later > at:
                        self.assertTrue(0 <= row[later] < other[later])
            self.assertEqual(len(club), len(club.rows))

    def test_what_it_was_made_of(self):
        for made, club in CLUBS:
            for table in made:
                self.assertEqual([table in club, ~table in club], [True, True])
            for one, other in itertools.product(made, repeat=2):
                self.assertIs(one * other in club, True)

    def test_products_and_undone(self):
        # All of a club that is a set with all products of the rows is a club, if these are turned into it.
        for made, club in CLUBS:
            tables = tables_of(club)
            for one in tables:
                for other in tables:
                    for turning in (one, ~one):
                        self.assertIs(turning * other * ~turning in club, True)

    def test_no_more_than_is_made(self):
        # Each row is made of the tables: else the club of others would have it, too.
        for made, club in CLUBS:
            for step in (2, 3, 5, 7):
                for table in made:
                    if table.power(step) not in club:
                        self.fail(table)
            for turning in true_tables(club.letters, club.depth, 2, 3, 1, 2):
                turned = tuple(turning * table * ~turning for table in made)
                self.assertEqual(Club(club.letters, club.depth, turned), club.turned(turning))

    def test_the_least_one_of_few_tables(self):
        # Products of few tables are tried; a table with a lesser pivot would be among them.
        for tables in ((TWICE, Table.of(B.power(3), 2)), (LEAN, Table.of(TWO, 2)), (Table.of(FAR, 2), TWICE)):
            club = Club("ab", 2, tables)
            found = {Table.unit("ab", 2).entries: Table.unit("ab", 2)}
            for _ in range(6):
                for table in list(found.values()):
                    for step in tables:
                        for way in (table * step, table * ~step):
                            found[way.entries] = way
            told = [exponents(table) for table in found.values()]
            for at, row in zip([first(row) for row in club.rows], club.rows):
                least = [abs(numbers[at]) for numbers in told if any(numbers) and first(numbers) == at]
                self.assertTrue(all(number % row[at] == 0 for number in least))
            self.assertTrue(all(table in club for table in found.values()))

    def test_other_tables_of_the_same_club(self):
        source = random.Random(2)
        for made, club in CLUBS:
            self.assertEqual(Club(club.letters, club.depth, tuple(tables_of(club))), club)
            tables = list(made)
            for _ in range(6 if len(made) > 1 else 0):
                at, other = source.sample(range(len(tables)), 2)
                tables[at] = tables[at] * tables[other].power(source.choice((1, -1)))
            source.shuffle(tables)
            self.assertEqual(Club(club.letters, club.depth, tuple(tables)), club)
            undone = tuple(~table for table in made) + made + (Table.unit(club.letters, club.depth),) + made
            self.assertEqual(Club(club.letters, club.depth, undone), club)
            more = made + tuple(one * other for one in made for other in made)
            self.assertEqual(Club(club.letters, club.depth, more), club)

    def test_no_tables(self):
        for letters, depth in KINDS:
            unit = Table.unit(letters, depth)
            for club in (Club(letters, depth, ()), Club(letters, depth, (unit,)), Club(letters, depth, (unit, unit))):
                self.assertEqual([club.rows, len(club), unit in club, club.numbers(unit)], [(), 0, True, ()])
                self.assertEqual([club.is_kept(), club.parts, club == Club(letters, depth, ())], [True, None, True])
                self.assertEqual(str(club), f"club of 0 rows, depth {depth} over {letters}")

    def test_exponents_of_many_digits(self):
        number = 10 ** 199 + 153
        club = Club("ab", 3, (Table.of(Word("ab", (("a", number),)), 3), Table.of(B, 3)))
        self.assertEqual([row[first(row)] for row in club.rows], [number, 1, number, number ** 2, number])
        self.assertEqual(club.parts, number ** 5)
        for letters, depth in (("ab", 5), ("abc", 3), ("ab", 2)):
            tables = tuple(true_tables(letters, depth, 5, depth, 1, LONGEST))
            club = Club(letters, depth, tables)
            self.assertTrue(all(table in club for table in tables))
            self.assertEqual(Club(letters, depth, tables[::-1]), club)
            self.assertEqual(Club(letters, depth, tuple(tables_of(club))), club)
        one = Table.of(Word("ab", (("a", LONGEST), ("b", LONGEST))), 2)
        self.assertEqual(Club("ab", 2, (one.power(LONGEST),)).rows[0][0], LONGEST * LONGEST)


class Places(Refusals):
    def test_fourteen_places_and_more(self):
        for letters, depth in (("ab", 5), ("abc", 3), ("a", 5)):
            club = Club(letters, depth, tuple(Table.of(Word.of(letters, letter), depth) for letter in letters))
            many = len(leading_of(letters, depth))
            self.assertEqual([len(club), club.parts, many <= 14], [many, 1, True])
        for letters, depth in (("abc", 4), ("abc", 5), ("xyz", 4)):
            self.refused_many(14, Club, letters, depth, ())
            self.refused_many(14, Club, letters, depth, (Table.unit(letters, depth),))

    def test_last_of_all(self):
        sly = Table.unit("abc", 4).with_entry("cc", 1)
        self.assertEqual(self.refused(NotTrue, Club, "abc", 4, (Table.unit("abc", 4), sly)).one, "c")
        self.refused(InvalidOperation, Club, "abc", 4, (LEAN,))
        self.refused(InvalidTable, Club, "abc", 4, (LEAN, 1))


class Numbers(unittest.TestCase):
    def test_products_of_the_rows(self):
        source = random.Random(1)
        for made, club in CLUBS:
            for most in (1, 9, 10 ** 40):
                numbers = tuple(source.randint(-most, most) for _ in club.rows)
                table = product(club, numbers)
                self.assertEqual([club.numbers(table), table in club], [numbers, True])
            for table in made:
                self.assertEqual(product(club, club.numbers(table)), table)

    def test_tables_that_are_not_in_it(self):
        for made, club in CLUBS:
            for table in true_tables(club.letters, club.depth, 8, 5, 1, 2):
                more = Club(club.letters, club.depth, made + (table,))
                self.assertEqual(table in club, more == club)
                self.assertEqual(club.numbers(table) is not None, more == club)
                if table in club:
                    self.assertEqual(product(club, club.numbers(table)), table)

    def test_all_values(self):
        for made, club in CLUBS[:9]:
            for value in all_kinds():
                right = isinstance(value, Table) and value.letters == club.letters and value.depth == club.depth and (
                    first_fault(value) is None and club.numbers(value) is not None)
                self.assertIs(value in club, right)
        self.assertEqual([ODD in SOME, Table.unit("ab", 3) in SOME, Table.unit("a", 2) in SOME, SOME in SOME], [False] * 4)
        self.assertIs(Table.unit("ab", 2).with_entry("bb", 2) in Club("ab", 2, (Table.of(A, 2), Table.of(B, 2))), False)


class Parts(unittest.TestCase):
    def test_parts(self):
        for made, club in CLUBS:
            pivots = [row[first(row)] for row in club.rows]
            wanted = 1
            for pivot in pivots:
                wanted *= pivot
            self.assertEqual(club.parts, wanted if len(pivots) == len(leading_of(club.letters, club.depth)) else None)

    def test_parts_that_are_counted(self):
        # All tables with few exponents fall into the parts: those of which one, undone, times the other is in.
        for tables in ((TWICE, Table.of(B, 2)), (Table.of(A.power(3), 2), Table.of(B, 2)), (TWICE, Table.of(B.power(2), 2))):
            club = Club("ab", 2, tables)
            parts = []
            for numbers in itertools.product(range(3), range(2), range(4)):
                table = by_exponents("ab", 2, numbers)
                if not any(~one * table in club for one in parts):
                    parts.append(table)
            self.assertEqual(len(parts), club.parts)

    def test_all_true_tables(self):
        # A club has all true tables if it has all of depth 1.
        for letters, depth, texts in (
            ("ab", 5, ("ab", "b")), ("ab", 4, ("aab", "ab")), ("abc", 3, ("a", "ab", "abcab" + "c" + "AB" + "C")),
            ("ab", 3, ("aabbb", "aabb", "aab")), ("ab", 3, ("aa", "b")), ("abc", 2, ("a", "b")),
        ):
            tables = tuple(Table.of(Word.of(letters, text), depth) for text in texts)
            club, cut = Club(letters, depth, tables), Club(letters, 1, tuple(table.cut(1) for table in tables))
            self.assertEqual(club.parts == 1, cut.parts == 1)
        self.assertEqual(Club("ab", 5, (Table.of(Word.of("ab", "ab"), 5), Table.of(B, 5))).parts, 1)


class Comparing(Refusals):
    def test_joined(self):
        for (made, one), (others, other) in itertools.product(CLUBS, repeat=2):
            if (one.letters, one.depth) == (other.letters, other.depth):
                club = one.joined(other)
                self.assertEqual(club, Club(one.letters, one.depth, made + others))
                self.assertEqual([club == other.joined(one), one.is_within(club), other.is_within(club)], [True] * 3)
                self.assertEqual(one.is_within(other), all(table in other for table in made))
                self.assertEqual(one.is_within(other), other.joined(one) == other)
                self.assertEqual(one == other, one.is_within(other) and other.is_within(one))
            else:
                self.refused(InvalidOperation, one.joined, other)
                self.assertEqual([one.is_within(other), one == other, one != other], [False, False, True])

    def test_turned(self):
        for made, club in CLUBS:
            for table in true_tables(club.letters, club.depth, 2, 4, 1, 3):
                turned = club.turned(table)
                self.assertEqual([turned.turned(~table), turned.parts], [club, club.parts])
                for one in tables_of(club):
                    self.assertIs(table * one * ~table in turned, True)
            self.assertEqual(club.turned(Table.unit(club.letters, club.depth)), club)

    def test_kept(self):
        kept = 0
        for made, club in CLUBS:
            units = range(len(leading_of(club.letters, club.depth)))
            tables = [by_exponents(club.letters, club.depth, tuple(int(k == at) for k in units)) for at in units]
            self.assertEqual(club.is_kept(), all(club.turned(table) == club for table in tables))
            kept += club.is_kept()
        self.assertTrue(0 < kept < len(CLUBS))
        self.assertIs(Club("ab", 3, tuple(true_tables("ab", 3, 2, 1, 3))).is_kept(), True)
        self.assertIs(Club("ab", 3, (Table.of(SWAP, 3),)).is_kept(), False)

    def test_equal(self):
        self.assertEqual([SOME == SOME, SOME != SOME, SOME == SOME.rows, SOME != None], [True, False, False, True])  # noqa: E711
        for value in all_kinds():
            self.assertIs(SOME == value, False)
            self.assertIs(SOME != value, True)
            self.assertIs(SOME.is_within(value), False)
            self.assertIs(Club("ab", 2, ()).is_within(value), is_club(value) and value.depth == 2)
        self.assertNotEqual(Club("ab", 1, ()), Club("ab", 2, ()))
        self.assertNotEqual(Club("a", 1, ()), Club("b", 1, ()))

    def test_not_iterated(self):
        self.assertRaises(TypeError, iter, SOME)
        self.assertRaises(TypeError, list, SOME)

    def test_never_changes(self):
        rows = SOME.rows
        before = shown(SOME)
        SOME.joined(Club("ab", 2, (LEAN,)))
        SOME.turned(LEAN)
        self.assertEqual([shown(SOME), SOME.rows, rows.__class__, rows[0].__class__], [before, rows, tuple, tuple])
        self.assertIs(hasattr(SOME, "letters") and hasattr(SOME, "depth") and hasattr(SOME, "parts"), True)


class Wrong(Arguments):
    def test_arguments(self):
        tables = Kind(InvalidOperation, lambda value: isinstance(value, tuple), [(LEAN,)], [[], [LEAN], None])
        self.check(Club, LETTERS, DEPTH, tables)

    def test_values_that_are_no_tables(self):
        for value in all_but(is_table):
            self.refused(InvalidTable, Club, "ab", 2, (LEAN, value))
            self.refused(InvalidTable, Club, "ab", 2, (Table.unit("ab", 3), value))
            self.refused(InvalidTable, Club, "ab", 2, (ODD, value, LEAN))

    def test_tables_of_other_kinds(self):
        for other in (Table.unit("ab", 3), Table.unit("a", 2), Table.of(A.over("abc"), 2), SLY):
            self.refused(InvalidOperation, Club, "ab", 2, (LEAN, other))
            self.refused(InvalidOperation, Club, "ab", 2, (ODD, other))

    def test_tables_that_are_not_true(self):
        for table in [ODD] + some_tables("ab", 2, 6, 3):
            for tables in ((table,), (LEAN, table), (LEAN, table, ODD)):
                error = self.refused(NotTrue, Club, "ab", 2, tables)
                self.assertEqual((error.one, error.other), first_fault(table))

    def test_methods(self):
        for call in (SOME.numbers, SOME.turned):
            for value in all_but(is_table):
                self.refused(InvalidTable, call, value)
            for other in (Table.unit("ab", 3), Table.unit("a", 2), Table.of(A.over("abc"), 2), SLY):
                self.refused(InvalidOperation, call, other)
            error = self.refused(NotTrue, call, ODD)
            self.assertEqual((error.one, error.other), ("a", "b"))
        for value in all_but(lambda value: is_club(value) and value.letters == "ab"):
            self.refused(InvalidOperation, SOME.joined, value)


if __name__ == "__main__":
    unittest.main()
