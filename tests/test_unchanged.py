"""Points 0.2 and 0.4 for stages 3 to 10: no call changes its arguments, equal calls give equal results."""

import copy
import unittest

from signedcounts.count.counts import beginnings, binomial, count, scattered
from signedcounts.pattern.leading import factors, halves, how_many, is_leading, leading_of, patterns_of
from signedcounts.power.far import exponent, far_count, growth, moments
from signedcounts.table.brackets import bracket_of, by_exponents, by_leading, exponents, leading_values, word_of
from signedcounts.table.overlays import does_follow, overlays, rule_sum
from signedcounts.table.tables import Table
from signedcounts.table.truth import first_fault, is_fault, is_paper, is_true, mended, paper
from signedcounts.word.apart import first_difference, image, is_parting, level, parting, run_pattern
from signedcounts.word.words import Word
from values import LONG, LONGEST, ODD, SLY, SWAP, TWO, all_kinds, shown

TABLE = Table.of(TWO, 3)


def places(*values):
    return list(scattered(*values))


CALLS = (
    (is_leading, "ab", "ab"), (factors, "ab", "ba"), (halves, "ab", "ab"), (patterns_of, "ab", 2),
    (leading_of, "ab", 2), (how_many, "ab", 2), (count, TWO, "ab"), (beginnings, LONG, "aab"), (binomial, -5, 2),
    (places, "ab", "abab", "ab"), (Table, "ab", 1, (LONGEST, 1)), (Table.of, LONG, 3), (Table.unit, "ab", 2),
    (Table.__getitem__, ODD, "ab"), (Table.__len__, ODD), (Table.__eq__, ODD, SLY), (Table.__ne__, ODD, ODD),
    (Table.__str__, ODD), (Table.__repr__, ODD), (Table.__mul__, ODD, ODD), (Table.__invert__, ODD),
    (Table.power, ODD, LONGEST), (Table.cut, TABLE, 2), (Table.with_entry, TABLE, "ab", 7),
    (overlays, "ab", "ab", "a"), (rule_sum, TABLE, "ab", "a"), (does_follow, TABLE, "ab", "a"), (is_true, SLY),
    (first_fault, SLY), (is_fault, ODD, ("a", "b")), (mended, SLY), (paper, TABLE), (paper, ODD),
    (is_paper, ODD, ("fault", "a", "b")), (bracket_of, "ab", "aab"), (exponents, TABLE),
    (by_exponents, "ab", 2, (1, 2, 3)), (leading_values, ODD), (by_leading, "ab", 2, (1, 2, 3)), (word_of, TABLE),
    (level, SWAP, 3), (first_difference, SWAP, TWO, 3), (run_pattern, LONG, TWO), (image, LONG, "aab", 7),
    (parting, LONG, TWO), (is_parting, SWAP, TWO, ("world", "a", 3)), (growth, TABLE, "ab"),
    (moments, TABLE, "ab", 6), (exponent, TABLE, TABLE), (far_count, LONG, LONGEST, "ab"),
)


def told(call, values):
    try:
        return shown(call(*values))
    except Exception as error:
        return shown(error)


class Unchanged(unittest.TestCase):
    def check(self, call, values):
        before = [shown(value) for value in values]
        first = told(call, values)
        self.assertEqual([shown(value) for value in values], before)
        self.assertEqual(told(call, values), first)
        self.assertEqual(told(call, copy.deepcopy(values)), first)
        self.assertEqual([shown(value) for value in values], before)

    def test_right_arguments(self):
        for call, *values in CALLS:
            self.check(call, values)
            self.assertNotEqual(told(call, values)[0], "error", call)

    def test_one_argument_of_another_kind(self):
        for call, *values in CALLS:
            owned = call.__qualname__.startswith("Table.") and call not in (Table.of, Table.unit)
            for at in range(1 if owned else 0, len(values)):
                for value in all_kinds()[::3]:
                    self.check(call, values[:at] + [value] + values[at + 1:])

    def test_calls_between_do_not_matter(self):
        first = [told(call, values) for call, *values in CALLS]
        again = [told(call, values) for call, *values in CALLS[::-1]]
        self.assertEqual(again[::-1], first)

    def test_results_share_nothing_that_changes(self):
        for call, *values in CALLS:
            if call is not places:
                self.assertNotIn(call(*values).__class__, (list, dict, set))

    def test_in_place_signs_make_a_new_table(self):
        table = kept = Table.of(Word.of("ab", "ab"), 2)
        table *= table
        self.assertEqual([table, kept], [Table.of(Word.of("ab", "abab"), 2), Table.of(Word.of("ab", "ab"), 2)])
