"""Points 0.2 and 0.4 for stages 3 to 18: no call changes its arguments, equal calls give equal results."""

import copy
import unittest

from signedcounts.club.clubs import Club
from signedcounts.count.counts import beginnings, binomial, count, scattered
from signedcounts.desk.desk import Desk
from signedcounts.lead.leads import Lead, origin, weights
from signedcounts.pattern.leading import factors, halves, how_many, is_leading, leading_of, patterns_of
from signedcounts.power.far import exponent, far_count, growth, moments
from signedcounts.power.roots import greatest_root, is_root_paper, root, root_paper
from signedcounts.table.brackets import bracket_of, by_exponents, by_leading, exponents, leading_values, word_of
from signedcounts.table.overlays import does_follow, overlays, rule_sum
from signedcounts.table.tables import Table
from signedcounts.table.truth import first_fault, is_fault, is_paper, is_true, mended, paper
from signedcounts.text.formats import (
    read_lead, read_table, read_value, read_word, write_lead, write_table, write_value, write_word,
)
from signedcounts.text.shell import Shell
from signedcounts.turn.commuting import (
    commuting_parts, core, do_commute, do_words_commute, table_level, word_root,
)
from signedcounts.turn.turned import (
    are_turned, is_turn_paper, is_turner, shifts, turn_paper, turner, word_turner,
)
from signedcounts.word.apart import first_difference, image, is_parting, level, parting, run_pattern
from signedcounts.word.words import Word
from values import (
    A, B, DOUBLE, FAR, LEAN, LONG, LONGEST, ODD, SLIDE, SLY, SWAP, TWICE, TWO, all_kinds, shown, some_desk,
)

TABLE = Table.of(TWO, 3)
SOME = Club("ab", 2, (TWICE, Table.of(B, 2)))


def places(*values):
    return list(scattered(*values))


def items_of_weights(*values):
    return list(weights(*values).items())


def changed(name, *values):
    """A new desk, of whose calls one more is done."""
    desk = some_desk()
    getattr(desk, name if isinstance(name, str) and name.isidentifier() else "x")(*values)
    return desk


def answered(*lines):
    shell = Shell("ab", 2)
    return [shell(line) for line in lines] + [shell]


CALLS = (
    (is_leading, "ab", "ab"), (factors, "ab", "ba"), (halves, "ab", "ab"), (patterns_of, "ab", 2),
    (leading_of, "ab", 2), (how_many, "ab", 2), (count, TWO, "ab"), (beginnings, LONG, "aab"), (binomial, -5, 2),
    (places, "ab", "abab", "ab"), (Table, "ab", 1, (LONGEST, 1)), (Table.of, LONG, 3), (Table.unit, "ab", 2),
    (Table.__getitem__, ODD, "ab"), (Table.__len__, ODD), (Table.__eq__, ODD, SLY), (Table.__ne__, ODD, ODD),
    (Table.__str__, ODD), (Table.__repr__, ODD), (Table.__mul__, ODD, ODD), (Table.__invert__, ODD),
    (Table.power, ODD, LONGEST), (Table.cut, TABLE, 2), (Table.with_entry, TABLE, "ab", 7),
    (overlays, "ab", "ab", "a"), (rule_sum, TABLE, "ab", "a"), (does_follow, TABLE, "ab", "a"), (is_true, SLY),
    (first_fault, SLY), (is_fault, ODD, ("a", "b")), (mended, SLY), (paper, TABLE), (paper, ODD),
    (is_paper, ODD, ("fault", "a", "b")), (bracket_of, "ab", "aab"), (exponents, TABLE),
    (by_exponents, "ab", 2, (1, 2, 3)), (leading_values, ODD), (by_leading, "ab", 2, (1, 2, 3)), (word_of, TABLE),
    (level, SWAP, 3), (first_difference, SWAP, TWO, 3), (run_pattern, LONG, TWO), (image, LONG, "aab", 7),
    (parting, LONG, TWO), (is_parting, SWAP, TWO, ("world", "a", 3)), (growth, TABLE, "ab"),
    (moments, TABLE, "ab", 6), (exponent, TABLE, TABLE), (far_count, LONG, LONGEST, "ab"),
    (root, LEAN, 2), (root, TABLE.power(4), 4), (greatest_root, TABLE.power(4)), (root_paper, LEAN, 2),
    (is_root_paper, LEAN, 2, ("bar", "ab", 1, 2)), (table_level, SLY), (do_commute, LEAN, ODD), (core, LEAN),
    (commuting_parts, LEAN, LEAN.power(-3)), (do_words_commute, LONG, FAR), (word_root, TWO.power(5)),
    (are_turned, TWICE, LEAN), (turner, TWICE, TWICE), (is_turner, TWICE, LEAN, LEAN), (shifts, TWICE, 2),
    (turn_paper, TWICE, LEAN), (turn_paper, TWICE, TWICE), (is_turn_paper, TWICE, LEAN, ("apart", 2, (1,), 2)),
    (word_turner, TWO, TWO.turned(FAR)), (Club, "ab", 2, (LEAN, TWICE)), (Club.__contains__, SOME, LEAN),
    (Club.__len__, SOME), (Club.__eq__, SOME, SOME), (Club.__ne__, SOME, SOME), (Club.__str__, SOME),
    (Club.__repr__, SOME), (Club.numbers, SOME, TWICE), (Club.joined, SOME, SOME), (Club.turned, SOME, LEAN),
    (Club.is_within, SOME, SOME), (Club.is_kept, SOME), (Lead, "ab", {"b": B, "a": FAR}), (Lead.__call__, SLIDE, TWO),
    (Lead.__call__, SLIDE, ODD), (Lead.__getitem__, SLIDE, "a"), (Lead.__len__, SLIDE), (Lead.__eq__, SLIDE, DOUBLE),
    (Lead.__ne__, SLIDE, DOUBLE), (Lead.__str__, SLIDE), (Lead.__repr__, SLIDE), (Lead.__mul__, SLIDE, DOUBLE),
    (items_of_weights, SLIDE, "ab"), (origin, SLIDE, TABLE), (write_word, LONG), (write_table, SLY), (write_lead, SLIDE),
    (write_value, ("a", (1, None))), (read_word, "letters ab\nrun a 2"), (read_table, "letters ab\ndepth 1\nat b 2"),
    (read_lead, "letters a\nonto ab\nlead a b 2"), (read_value, "( =a ( 1 none ) )"), (Desk, "ab", 3), (Shell, "ab", 3),
    (Desk.__getitem__, some_desk(), "one"), (Desk.__contains__, some_desk(), "one"), (Desk.__len__, some_desk()),
    (Desk.__eq__, some_desk(), some_desk()), (Desk.__ne__, some_desk(), some_desk()), (Desk.__str__, some_desk()),
    (Desk.__repr__, some_desk()), (Desk.table, some_desk(), "one"), (Desk.counted, some_desk(), "one", "ab"),
    (Desk.club, some_desk()), (Desk.alike, some_desk()), (Desk.crossing, some_desk()), (Desk.twin, some_desk()),
    (changed, "put", "x", FAR), (changed, "take", "one"), (changed, "join", "one", "two"), (changed, "turn", "one", "two"),
    (changed, "cross", "one", "two"), (changed, "flip", "one"), (changed, "lead_all", SLIDE), (changed, "deepen", 4),
    (answered, "put x =aB", "word x"),
)
# The first argument of each of these is what the call is a method of.
METHODS = ("Table.", "Club.", "Lead.", "Desk.")


def told(call, values):
    try:
        return shown(call(*values))
    except Exception as error:
        return shown(error)


class Unchanged(unittest.TestCase):
    def check(self, call, values):
        before = [shown(value) for value in values]
        first = told(call, values)
        self.assertEqual([shown(value) for value in values], before)
        self.assertEqual(told(call, values), first)
        self.assertEqual(told(call, copy.deepcopy(values)), first)
        self.assertEqual([shown(value) for value in values], before)

    def test_right_arguments(self):
        for call, *values in CALLS:
            self.check(call, values)
            self.assertNotEqual(told(call, values)[0], "error", call)

    def test_one_argument_of_another_kind(self):
        for call, *values in CALLS:
            owned = call.__qualname__.startswith(METHODS) and call not in (Table.of, Table.unit)
            for at in range(1 if owned else 0, len(values)):
                for value in all_kinds()[::3]:
                    self.check(call, values[:at] + [value] + values[at + 1:])

    def test_calls_between_do_not_matter(self):
        first = [told(call, values) for call, *values in CALLS]
        again = [told(call, values) for call, *values in CALLS[::-1]]
        self.assertEqual(again[::-1], first)

    def test_results_share_nothing_that_changes(self):
        for call, *values in CALLS:
            if call not in (places, items_of_weights, answered):
                self.assertNotIn(call(*values).__class__, (list, dict, set))

    def test_in_place_signs_make_a_new_table(self):
        table = kept = Table.of(Word.of("ab", "ab"), 2)
        table *= table
        self.assertEqual([table, kept], [Table.of(Word.of("ab", "abab"), 2), Table.of(Word.of("ab", "ab"), 2)])
