"""Points 13.1 and 13.2: what is turned into what, for tables and for words."""

import itertools
import random
import unittest

from signedcounts.errors import InvalidNumber, InvalidOperation, InvalidTable, InvalidWord, NotTrue
from signedcounts.pattern.leading import leading_of
from signedcounts.table.brackets import bracket_of, by_exponents, exponents
from signedcounts.table.tables import Table
from signedcounts.table.truth import first_fault, is_true
from signedcounts.turn.turned import (
    are_turned, is_turn_paper, is_turner, shifts, turn_paper, turner, word_turner,
)
from signedcounts.word.words import Word
from checks import Arguments, Kind
from values import (
    A, B, EMPTY, FAR, LEAN, LONG, LONGEST, ODD, SLY, SWAP, TEXTS, TOO_LONG, TWICE, TWO, all_kinds, alternating,
    is_table, is_word, reduced_text, shown, some_tables, some_words, true_tables, within,
)

TABLE = Kind(InvalidTable, is_table, [LEAN])
WORD = Kind(InvalidWord, is_word, [SWAP])
SIZE = Kind(InvalidNumber, within(1, 2), [2], [0, 3, True, 5, -1])
KINDS = (("a", 3), ("ab", 1), ("ab", 3), ("ab", 4), ("abc", 3))


def row(table, size):
    """The exponents of the table at the leading patterns of so many letters."""
    pairs = zip(leading_of(table.letters, table.depth), exponents(table))
    return tuple(number for pattern, number in pairs if len(pattern) == size)


def shift(turning, table, size):
    return row(turning * table * ~turning * ~table, size)


def agree(one, other, size):
    """Whether the tables agree at all patterns of at most so many letters."""
    return size == 0 or one.cut(size) == other.cut(size)


def is_sum(rows, wanted):
    """Whether the row is a sum of multiples of rows as those of `shifts`."""
    rest = list(wanted)
    for one in rows:
        at = [number != 0 for number in one].index(True)
        if rest[at] % one[at]:
            return False
        rest = [x - rest[at] // one[at] * y for x, y in zip(rest, one)]
    return not any(rest)


def generators(letters, depth):
    """The tables of the brackets, of whose powers all true tables are products."""
    return [Table.of(bracket_of(letters, pattern), depth) for pattern in leading_of(letters, depth)]


def keepers(table, size):
    """True tables that turn the table into itself up to a size, of which all such ones are products.

    Found from the longest patterns on by how the shifts of the tables add up.
    """
    found = generators(table.letters, table.depth)
    for step in range(1, size + 1):
        kept, rows = [], []
        for turning in found[::-1]:
            told = shift(turning, table, step)
            kept_one, rows = put_in(rows, list(told), turning)
            if kept_one is not None:
                kept.append(kept_one)
        found = kept[::-1]
    return found


def put_in(rows, told, turning):
    """A table, if one is left, whose shift is 0, and the rows of shifts with their tables."""
    done = []
    for one, table in rows:
        at = [number != 0 for number in one].index(True)
        first = [number != 0 for number in told].index(True) if any(told) else None
        if first is not None and first < at:
            done.append((told, turning))
            told, turning = [0] * len(told), None
        while told[at] != 0 and first == at:
            many = one[at] // told[at]
            one, told = told, [x - many * y for x, y in zip(one, told)]
            table, turning = turning, table * turning.power(-many)
        done.append((one, table))
    if any(told):
        done.append((told, turning))
        turning = None
    return turning, done


class Examples(unittest.TestCase):
    def test_first(self):
        told = [
            are_turned(Table.of(A, 2), Table.of(A.turned(B), 2)),
            is_turner(Table.of(A, 2), Table.of(A.turned(B), 2), Table.of(B, 2)), are_turned(TWICE, LEAN),
            turner(TWICE, LEAN), shifts(TWICE, 1), shifts(TWICE, 2), shifts(Table.of(SWAP, 3), 3),
        ]
        self.assertEqual(told, [True, True, False, None, (), ((2,),), ((1, 0), (0, 1))])

    def test_second(self):
        told = [
            is_turn_paper(TWICE, LEAN, ("apart", 2, (1,), 2)), is_turn_paper(TWICE, LEAN, ("apart", 2, (2,), 4)),
            is_turn_paper(TWICE, LEAN, ("apart", 2, (1,), 3)),
            is_turn_paper(TWICE, Table.of(B, 2), ("apart", 1, (0, 1), 0)), turn_paper(TWICE, LEAN)[:2],
        ]
        self.assertEqual(told, [True, True, False, True, ("apart", 2)])

    def test_third(self):
        told = [
            word_turner(TWO, A), TWO.turned(word_turner(TWO, Word.of("ab", "aba"))) == Word.of("ab", "aba"),
            word_turner(FAR, FAR.power(2)),
        ]
        self.assertEqual(told, [None, True, None])


class Shifts(unittest.TestCase):
    def test_form(self):
        for table in self.tables():
            for size in range(1, table.depth + 1):
                firsts = []
                rows = shifts(table, size)
                for one in rows:
                    at = [number != 0 for number in one].index(True)
                    self.assertGreaterEqual(one[at], 1)
                    self.assertTrue(all(0 <= ahead[at] < one[at] for ahead in rows[:len(firsts)]))
                    firsts.append(at)
                    self.assertEqual(len(one), len(row(table, size)))
                self.assertEqual(sorted(set(firsts)), firsts)

    def test_all_shifts_and_no_others(self):
        for table in self.tables():
            for size in range(1, table.depth + 1):
                rows, ways = shifts(table, size), []
                for turning in keepers(table, size - 1):
                    self.assertTrue(agree(turning * table * ~turning, table, size - 1))
                    ways.append(shift(turning, table, size))
                    self.assertIs(is_sum(rows, ways[-1]), True)
                # Each row is a sum of what is told: so it is of the reduced ones, which are made as the rows are.
                made = []
                for told in ways:
                    made = put_in(made, list(told), Table.unit("a", 1))[1]
                pivots = [[number for number in one if number][0] for one, table_there in made]
                self.assertEqual([abs(number) for number in pivots], [[n for n in one if n][0] for one in rows])

    def tables(self):
        found = [LEAN, TWICE, Table.of(SWAP, 3), Table.of(FAR, 3), Table.unit("ab", 3), Table.of(TWO, 4).power(12)]
        for letters, depth in KINDS:
            for least in range(1, depth + 1):
                found.extend(true_tables(letters, depth, 2, 9 * depth + least, least, 6))
        return found

    def test_any_true_table_that_turns_so_far(self):
        source = random.Random(1)
        for table in self.tables():
            for size in range(1, table.depth + 1):
                turning = Table.unit(table.letters, table.depth)
                for one in keepers(table, size - 1):
                    turning = turning * one.power(source.randint(-3, 3))
                self.assertIs(is_sum(shifts(table, size), shift(turning, table, size)), True)

    def test_at_the_ends(self):
        for table in self.tables():
            self.assertEqual(shifts(table, 1), ())
        for letters, depth in KINDS:
            self.assertEqual([shifts(Table.unit(letters, depth), size) for size in (1, depth)], [(), ()])
        self.assertEqual(shifts(Table.of(A.power(12), 3), 3), ((12, 0),))
        self.assertEqual(shifts(Table("ab", 1, (LONGEST, 1)), 1), ())
        self.assertEqual(shifts(Table.of(Word("ab", (("a", LONGEST),)), 2), 2), ((LONGEST,),))
        # The core of the table up to two letters is a; it shifts the table at three letters, too.
        self.assertEqual(shifts(by_exponents("ab", 3, (6, 0, 2, 0, 0)), 3), ((2, 0),))


class Turned(unittest.TestCase):
    def test_what_is_turned(self):
        for letters, depth in KINDS + (("ab", 5),):
            for least in (1, 2, 3):
                ones = true_tables(letters, depth, 3, depth + least, least, 5)
                turning = true_tables(letters, depth, 3, 7, 1, 5)
                for one, way in list(zip(ones, turning)) + [(ones[0].power(6), turning[0]), (ones[1], ones[1])]:
                    other = way * one * ~way
                    self.assertIs(are_turned(one, other), True)
                    self.assertEqual(turner(one, other) * one * ~turner(one, other), other)
                    self.assertIs(is_true(turner(one, other)), True)
                    for value in (way, turner(one, other), way * one.power(5)):
                        self.assertIs(is_turner(one, other, value), True)
                    word, told = turn_paper(one, other)
                    self.assertEqual((word, len(told)), ("by", len(leading_of(letters, depth))))
                    for numbers in (told, exponents(way), exponents(way * one)):
                        self.assertIs(is_turn_paper(one, other, ("by", numbers)), True)

    def test_what_is_not(self):
        found = 0
        for letters, depth in KINDS + (("ab", 5),):
            for least in (1, 2, 3):
                one, way = true_tables(letters, depth, 1, depth, least, 5)[0], true_tables(letters, depth, 1, 8)[0]
                for change in true_tables(letters, depth, 2, 9, 2) + true_tables(letters, depth, 2, 10, depth, 1):
                    found += self.check_apart(one, way * one * ~way * change)
        self.assertGreater(found, 30)

    def check_apart(self, one, other):
        """The paper is right by 13.2, as far as 1 is returned: the tables are not turned."""
        paper = turn_paper(one, other)
        self.assertIs(is_turn_paper(one, other, paper), True)
        self.assertEqual(are_turned(one, other), paper[0] == "by")
        self.assertEqual(turner(one, other) is None, paper[0] == "apart")
        if paper[0] == "by":
            self.assertIs(is_turner(one, other, turner(one, other)), True)
            return 0
        word, size, numbers, modulus = paper
        self.assertEqual((word, len(numbers), modulus >= 2), ("apart", len(row(one, size)), True))
        for turning in keepers(one, size - 1):
            told = sum(x * y for x, y in zip(numbers, shift(turning, one, size)))
            self.assertEqual(told % modulus, 0)
        return 1

    def test_by_trying(self):
        # Tables of few integers at depth 2: all turning tables up to some size are tried.
        ways = [by_exponents("ab", 2, numbers + (0,)) for numbers in itertools.product(range(-4, 5), repeat=2)]
        for numbers in ((2, 0, 0), (2, 4, 1), (3, 0, -1), (0, 0, 2), (4, 6, 0), (1, 2, 0)):
            one = by_exponents("ab", 2, numbers)
            turned = [way * one * ~way for way in ways]
            for change in range(-6, 7):
                other = one * by_exponents("ab", 2, (0, 0, change))
                self.assertEqual(are_turned(one, other), other in turned)

    def test_by_the_unit_table_and_into_itself(self):
        for one in (LEAN, TWICE, Table.of(FAR, 2), Table.unit("ab", 2)):
            unit = Table.unit("ab", 2)
            self.assertIs(is_turner(one, one, unit), True)
            self.assertIs(is_turn_paper(one, one, ("by", (0, 0, 0))), True)
            self.assertEqual([are_turned(one, one), turn_paper(one, one)[0]], [True, "by"])
            self.assertEqual(are_turned(unit, one), one == unit)
            self.assertEqual(are_turned(one, unit), one == unit)

    def test_unlike_at_the_last_level_alone(self):
        one = Table.of(TWO, 4)
        for pattern in ("aaab", "aabb", "abbb"):
            other = one * Table.of(bracket_of("ab", pattern), 4)
            self.assertEqual(one.cut(3), other.cut(3))
            self.assertEqual(self.check_apart(one, other) == 1, not are_turned(one, other))
        last = by_exponents("ab", 4, (0, 0, 0, 0, 0, 1, 0, 0))
        self.assertEqual(turn_paper(Table.unit("ab", 4), last)[:2], ("apart", 4))
        self.assertIs(are_turned(TWICE, TWICE * Table.of(SWAP.power(2), 2)), True)

    def test_far_exponents(self):
        for one, way in zip(true_tables("ab", 4, 3, 11, 1, 10 ** 30), true_tables("ab", 4, 3, 12, 1, 10 ** 40)):
            other = way * one * ~way
            self.assertIs(is_turner(one, other, turner(one, other)), True)
            self.assertIs(is_turn_paper(one, other, turn_paper(one, other)), True)
            self.assertEqual(self.check_apart(one, other * by_exponents("ab", 4, (0, 0, 1, 0, 0, 0, 0, 0))), 1)
        number = 10 ** 100 + 267
        one = by_exponents("ab", 3, (number, 0, 0, 0, 0))
        self.assertEqual(turn_paper(one, one * Table.of(SWAP, 3))[::3], ("apart", number))
        self.check_apart(one, one * by_exponents("ab", 3, (0, 0, number, 1, 0)))

    def test_exponents_of_two_hundred_digits(self):
        # Of all turning tables only few have exponents that can be passed; the paper tells such.
        for seed in range(3):
            one = true_tables("ab", 5, 1, seed, 1, LONGEST)[0]
            way = true_tables("ab", 5, 1, seed + 5, 1, LONGEST)[0]
            other = way * one * ~way
            self.assertIs(is_turn_paper(one, other, turn_paper(one, other)), True)
            self.assertIs(is_turner(one, other, turner(one, other)), True)


class Papers(unittest.TestCase):
    def test_papers_of_others(self):
        one, other = TWICE, Table.of(Word.of("ab", "aaabAB").turned(B), 2)
        for modulus, numbers, right in (
            (2, (1,), True), (2, (3,), True), (4, (2,), True), (4, (-2,), True), (4, (1,), False), (2, (2,), False),
            (0, (1,), False), (0, (0,), False), (1, (1,), False), (-2, (1,), False), (2, (0,), False),
            (6, (3,), True), (10 ** 100, (5 * 10 ** 99,), True), (2 * LONGEST, (LONGEST,), False), (True, (1,), False),
            (2, (True,), False), (2, [1], False), (2, (1, 1), False), (2, (), False), (2, (TOO_LONG + 1,), False),
            (2, (LONGEST,), True), (None, (1,), False), ("2", (1,), False),
        ):
            self.assertEqual(is_turn_paper(one, other, ("apart", 2, numbers, modulus)), right, (modulus, numbers))
        for size in (0, 1, 3, True, None, "2", -1, TOO_LONG):
            self.assertIs(is_turn_paper(one, other, ("apart", size, (1,), 2)), False)
            self.assertIs(is_turn_paper(one, other, ("apart", size, (1, 0), 2)), False)

    def test_sizes_of_papers(self):
        one, other = TWICE, Table.of(B, 2)
        for size, right in ((1, True), (True, False), (2, False), (0, False), (3, False), ("1", False), (None, False)):
            self.assertEqual(is_turn_paper(one, other, ("apart", size, (0, 1), 0)), right)
        for table in (TWICE, Table.of(TWO, 4), Table.of(SWAP, 5), Table.unit("ab", 5), Table.unit("a", 1)):
            for size in range(8):
                for many in range(10):
                    for modulus in (0, 2):
                        value = ("apart", size, (1,) * many, modulus)
                        self.assertIs(is_turn_paper(table, table, value), False)

    def test_modulus_of_zero(self):
        one, other = Table.of(SWAP, 2), Table.of(SWAP.power(3), 2)
        for numbers, modulus, right in (((1,), 0, True), ((-7,), 0, True), ((0,), 0, False), ((1,), 2, False), ((1,), 5, True)):
            self.assertEqual(is_turn_paper(one, other, ("apart", 2, numbers, modulus)), right)
        one, other = by_exponents("abc", 2, (2, 0, 0, 0, 0, 0)), by_exponents("abc", 2, (2, 0, 0, 1, 2, 3))
        self.assertEqual(shifts(one, 2), ((2, 0, 0), (0, 2, 0)))
        for numbers, modulus, right in (
            ((0, 0, 1), 0, True), ((0, 0, 1), 2, True), ((0, 0, 1), 3, False), ((1, 0, 0), 0, False),
            ((1, 0, 0), 2, True), ((0, 1, 0), 2, False), ((2, 0, 1), 4, True), ((1, 1, 1), 2, False),
        ):
            self.assertEqual(is_turn_paper(one, other, ("apart", 2, numbers, modulus)), right, numbers)

    def test_just_one_form(self):
        one, other = TWICE, TWICE * Table.of(SWAP.power(4), 2)
        self.assertIs(are_turned(one, other), True)
        for numbers, modulus in itertools.product(range(-3, 4), (0, 2, 3, 4, 8)):
            for size, row_there in ((1, (numbers, 1)), (2, (numbers,))):
                self.assertIs(is_turn_paper(one, other, ("apart", size, row_there, modulus)), False)
        for numbers in itertools.product(range(-3, 4), repeat=3):
            self.assertIs(is_turn_paper(TWICE, LEAN, ("by", numbers)), False)
            way = by_exponents("ab", 2, numbers)
            self.assertEqual(is_turn_paper(one, other, ("by", numbers)), is_turner(one, other, way))
            self.assertEqual(is_turner(one, other, way), numbers[1] == -2)

    def test_wrong_papers(self):
        one, other = Table.of(A, 2), Table.of(A.turned(B), 2)
        self.assertIs(is_turn_paper(one, other, ("by", (0, 1, 0))), True)
        for value in (
            ("by", (0, True, 0)), ("by", [0, 1, 0]), ["by", (0, 1, 0)], ("by", (0, 1)), ("by", (0, 1, 0, 0)), ("by",),
            ("by", (0, 1, 0), 1), ("by", (0, 2, 0)), ("apart", (0, 1, 0)), ("by", (TOO_LONG, 1, 0)), (), None, True,
            ("by", (0, 1, 0), 2, 3), ("apart", 2, (1,)), ("apart", 1, (1, 0), 2), Table.of(B, 2),
        ):
            self.assertIs(is_turn_paper(one, other, value), False)
        self.assertIs(is_turn_paper(one, other, ("by", (LONGEST, 1, -LONGEST))), True)

    def test_values_of_all_kinds(self):
        for value in all_kinds():
            for one, other in ((TWICE, LEAN), (TWICE, TWICE)):
                self.assertIs(is_turn_paper(one, other, value), False)
                self.assertIs(is_turn_paper(one, other, ("by", value)), False)
                self.assertIs(is_turn_paper(one, other, (value, 2, (1,), 2)), False)
                right = other is LEAN and shown(value) == shown((1,))
                self.assertIs(is_turn_paper(one, other, ("apart", 2, value, 2)), right)
                size = other is LEAN and shown(value) == shown(2)
                self.assertIs(is_turn_paper(one, other, ("apart", value, (1,), 2)), size)
                self.assertIs(is_turn_paper(one, other, ("apart", 2, (1,), value)), size)
                self.assertIs(is_turner(one, other, value), False)

    def test_turners(self):
        one = Table.of(A, 2)
        other = Table.of(A.turned(B), 2)
        for value in (
            Table.of(B, 3), Table.of(B, 1), Table.of(B.over("abc"), 2), ODD, Table.of(B, 2).with_entry("aa", 1),
            Table.of(Word.of("xy", "y"), 2), Table.of(Word.of("bc", "c"), 2), Table.of(A, 2), SWAP, B,
        ):
            self.assertIs(is_turner(one, other, value), False)
        # It would turn, but is not true.
        sly = Table.of(B, 2).with_entry("bb", 7)
        self.assertEqual((sly * one * ~sly == other, is_true(sly), is_turner(one, other, sly)), (True, False, False))


def slow_turned(one, other):
    """Whether the words of two texts are turned into one another, by their rounds."""
    rounds = []
    for text in (one, other):
        middle = reduced_text(text)
        while len(middle) > 1 and middle[0] == middle[-1].swapcase():
            middle = middle[1:-1]
        rounds.append(middle)
    return len(rounds[0]) == len(rounds[1]) and rounds[1] in rounds[0] * 2


class Words(unittest.TestCase):
    def check(self, one, other, right=True):
        word = word_turner(one, other)
        if not right:
            self.assertIs(word, None)
            return
        self.assertEqual(one.turned(word), other)
        self.assertTrue(all(abs(exponent) <= LONGEST for letter, exponent in word.runs))

    def test_by_the_texts(self):
        texts = TEXTS[::5] + ["abAB", "bABa", "baBA", "aabb", "abba", "aabab", "ababa", "abaab", "babaa", "aBabAb", ""]
        for one in texts:
            for other in texts:
                self.check(Word.of("ab", one), Word.of("ab", other), slow_turned(one, other))

    def test_turned_words(self):
        for word in some_words("ab", 12, 1, 6) + [SWAP, FAR, LONG, TWO.power(9), EMPTY, SWAP.power(20)]:
            self.check(word, word)
            for other in some_words("ab", 4, 2, 8) + [FAR, LONG, ~TWO]:
                self.check(word, word.turned(other))
                self.check(word.turned(other), word)
                if len(word) > 0:
                    self.check(word, word.power(2).turned(other), False)
                    self.check(word, EMPTY, False)
                    self.check(word, word.turned(other) * A.power(3) * B, word.turned(other) * A.power(3) * B == word)

    def test_words_put_round(self):
        runs = tuple(("ab"[k % 2], k + 1) for k in range(120))
        word = Word("ab", runs)
        for at in (0, 1, 2, 59, 60, 61, 118, 119):
            self.check(word, Word("ab", runs[at:] + runs[:at]))
        self.check(word, Word("ab", (("b", 5),) + runs + (("b", -5),)))
        self.check(word, Word("ab", (("b", 50),) + runs[:-1] + (("b", 70),)))
        self.check(word, Word("ab", (("b", 50),) + runs[:-1] + (("b", 71),)), False)
        self.check(word, Word("ab", runs[:-1] + (("b", -120),)), False)

    def test_two_hundred_runs(self):
        ahead = tuple(("ab"[k % 2], k + 1) for k in range(99))
        other_ahead = tuple(("ab"[k % 2], -k - 1) for k in range(99))
        one, other = Word("ab", (("b", 7),)).turned(Word("ab", ahead)), Word("ab", (("b", 7),)).turned(Word("ab", other_ahead))
        self.assertEqual([len(one), len(other)], [199, 199])
        self.check(one, other)
        full = Word("ab", tuple(("ab"[k % 2], k + 1) for k in range(200)))
        for at in range(0, 200, 7):
            self.check(full, Word("ab", full.runs[at:] + full.runs[:at]))

    def test_exponents_that_can_be_passed(self):
        # What turns could put the ends together to an exponent of 201 digits.
        one = A.turned(Word("ab", (("b", LONGEST),)))
        other = A.turned(Word("ab", (("b", -LONGEST),)))
        self.check(one, other)
        self.check(one.power(300) * one.power(200), other.power(300) * other.power(200))
        pair = Word("ab", (("a", LONGEST), ("b", 1), ("a", 1 - LONGEST)))
        self.check(pair, Word("ab", (("a", 1 - LONGEST), ("b", 1), ("a", LONGEST))))
        far = Word("ab", (("a", LONGEST),)).power(400)
        self.check(far.turned(B), far.turned(~B))
        self.check(far, far * A, False)
        self.check(far.turned(Word("ab", (("b", LONGEST),))), far.turned(Word("ab", (("b", -LONGEST),))))

    def test_alternating(self):
        word = Word("ab", alternating(198))
        self.check(word, Word("ab", alternating(198, "ba")))
        self.check(word, Word("ab", alternating(196, "ba")), False)


class Wrong(Arguments):
    def test_arguments(self):
        for call in (are_turned, turner, turn_paper):
            self.check(call, TABLE, TABLE)
        for call in (is_turner, is_turn_paper):
            self.check(lambda one, other, call=call: call(one, other, None), TABLE, TABLE)
        self.check(shifts, TABLE, SIZE)
        self.check(word_turner, WORD, WORD)

    def test_unlike_kinds(self):
        calls = [are_turned, turner, turn_paper]
        calls += [lambda one, other, call=call: call(one, other, LEAN) for call in (is_turner, is_turn_paper)]
        for call in calls:
            for other in (Table.of(SWAP, 3), Table.of(A.over("abc"), 2), Table.unit("ab", 1), SLY):
                self.refused(InvalidOperation, call, LEAN, other)
                self.refused(InvalidOperation, call, other, ODD)
            for table in [ODD] + some_tables("ab", 2, 4, 6):
                for values, fault in (((table, LEAN), first_fault(table)), ((LEAN, table), first_fault(table))):
                    error = self.refused(NotTrue, call, *values)
                    self.assertEqual((error.one, error.other), fault)
            one, other = Table.unit("ab", 2).with_entry("bb", 1), Table.unit("ab", 2).with_entry("aa", 1)
            for first, second in ((one, other), (other, one)):
                error = self.refused(NotTrue, call, first, second)
                self.assertEqual((error.one, error.other), first_fault(first))
        self.refused(InvalidOperation, word_turner, SWAP, A.over("abc"))

    def test_shifts(self):
        for table in (LEAN, Table.of(SWAP, 5), Table.unit("a", 1)):
            for size in (0, -1, table.depth + 1, True, None, TOO_LONG):
                self.refused(InvalidNumber, shifts, table, size)
        error = self.refused(NotTrue, shifts, ODD, 2)
        self.assertEqual((error.one, error.other), ("a", "b"))
        self.refused(InvalidNumber, shifts, ODD, 3)


if __name__ == "__main__":
    unittest.main()
