"""Points 17.1 and 17.2: texts of words, tables, leads and values."""

import itertools
import random
import unittest

from signedcounts.errors import InvalidOperation, InvalidTable, InvalidWord, ParseError
from signedcounts.lead.leads import Lead
from signedcounts.pattern.leading import patterns_of
from signedcounts.power.roots import root_paper
from signedcounts.table.tables import Table
from signedcounts.table.truth import paper
from signedcounts.text.formats import (
    read_lead, read_table, read_value, read_word, write_lead, write_table, write_value, write_word,
)
from signedcounts.turn.turned import turn_paper
from signedcounts.word.apart import parting
from signedcounts.word.words import Word
from checks import Arguments, Kind, Refusals
from values import (
    A, B, DOUBLE, EMPTY, FAR, LEAN, LONG, LONGEST, ODD, SLIDE, SLY, SWAP, TOO_LONG, TWICE, TWO, all_but, all_kinds,
    alternating, is_lead, is_table, is_word, shown, some_tables, some_words,
)

WORD = Kind(InvalidWord, is_word, [SWAP])
TABLE = Kind(InvalidTable, is_table, [ODD])
LEAD = Kind(InvalidOperation, is_lead, [SLIDE])
# No integers of their own kind: needless zeros, signs, other digits, other signs.
NO_INTEGERS = (
    "01", "00", "-0", "-01", "+1", "--1", "1.0", "1e3", "0x1", "1_000", "-", "a", "1a", "\u0661", "\u00b2", "\uff11",
    str(TOO_LONG), str(-TOO_LONG), "\t1", "1\r",
)
READERS = (
    (read_word, "letters ab\nrun a 1\nrun b -2"), (read_table, "letters ab\ndepth 2\nat a 5\nat ba -1"),
    (read_lead, "letters ab\nonto ab\nlead a a 1 b 1\nlead b"),
)


def nested(deep):
    value = 5
    for _ in range(deep):
        value = (value, "a")
    return value


class Examples(unittest.TestCase):
    def test_first(self):
        told = [write_word(SWAP).split("\n"), write_table(Table.of(SWAP, 2)).split("\n"), write_lead(SLIDE).split("\n")]
        self.assertEqual(told, [
            ["letters ab", "run a 1", "run b 1", "run a -1", "run b -1"],
            ["letters ab", "depth 2", "at ab 1", "at ba -1"],
            ["letters ab", "onto ab", "lead a a 1 b 1", "lead b b 1"],
        ])

    def test_second(self):
        told = [
            read_word(write_word(FAR)) == FAR, read_table("letters ab\ndepth 1") == Table.unit("ab", 1),
            write_value(("bar", "ab", 1, None)), read_value("( =aB ( ) -3 )"), read_lead(write_lead(DOUBLE)) == DOUBLE,
        ]
        self.assertEqual(told, [True, True, "( =bar =ab 1 none )", ("aB", (), -3), True])

    def test_third(self):
        for call, text, index in ((read_word, "letters ab\nrun a 1\nrun a 1", 3), (read_table, "letters ab\nat a 1", 1)):
            with self.assertRaises(ParseError) as caught:
                call(text)
            self.assertEqual(caught.exception.index, index)


class Reading(Refusals):
    def refused_at(self, index, call, *values):
        self.assertEqual(self.refused(ParseError, call, *values).index, index)


class Words(Reading):
    def test_there_and_back(self):
        words = some_words("ab", 20, 1) + some_words("xyz", 5, 2) + [EMPTY, FAR, LONG, SWAP, Word("q", ())]
        words += [Word("ab", (("b", -LONGEST), ("a", LONGEST))), Word("ab", alternating(200))]
        texts = [write_word(word) for word in words]
        for word, text in zip(words, texts):
            self.assertEqual([read_word(text), text.split("\n")], [word, [f"letters {word.letters}"] + [
                f"run {letter} {exponent}" for letter, exponent in word.runs]])
        for (one, text), (other, other_text) in itertools.combinations(zip(words, texts), 2):
            self.assertEqual(one == other, text == other_text)

    def test_the_empty_word(self):
        self.assertEqual([write_word(EMPTY), read_word("letters ab")], ["letters ab", EMPTY])
        self.assertEqual(read_word("letters xyz"), Word("xyz", ()))

    def test_nothing_with_this_text(self):
        for lines in (
            ["letters ba"], ["letters abcd"], ["letters A"], ["letters ab", "run c 1"], ["letters ab", "run A 1"],
            ["letters ab", "run a 0"], ["letters ab", "run a 1", "run a -1"], ["letters ab", "run ab 1"],
            ["letters ba", "run a 1"], ["letters ab", "run a 1", "run b 0", "run a 1"], ["letters 12", "run 1 1"],
            ["letters ab"] + [f"run {'ab'[k % 2]} 1" for k in range(201)],
        ):
            self.refused_at(len(lines), read_word, "\n".join(lines))
        self.assertEqual(len(read_word("\n".join(["letters ab"] + [f"run {'ab'[k % 2]} 1" for k in range(200)]))), 200)

    def test_exponents(self):
        for number in (LONGEST, -LONGEST, 1, -1, 10):
            self.assertEqual(read_word(f"letters a\nrun a {number}").runs, (("a", number),))
        for text in NO_INTEGERS:
            self.refused_at(2, read_word, f"letters a\nrun a 1\nrun a {text}\nrun")
        self.refused_at(2, read_word, "letters a\nrun a 0")

    def test_longer_integers_are_written(self):
        word = Word("ab", (("a", LONGEST),)).power(400)
        self.assertEqual(write_word(word), f"letters ab\nrun a {400 * LONGEST}")
        self.refused_at(1, read_word, write_word(word))


class Tables(Reading):
    def test_there_and_back(self):
        tables = some_tables("ab", 2, 6, 1, -1, 1) + some_tables("abc", 3, 2, 2) + [
            ODD, SLY, LEAN, Table.unit("ab", 5), Table.unit("q", 1), Table.of(FAR, 3), Table("ab", 1, (LONGEST, -LONGEST))]
        texts = [write_table(table) for table in tables]
        for table, text in zip(tables, texts):
            pairs = zip(patterns_of(table.letters, table.depth), table.entries)
            lines = [f"at {pattern} {entry}" for pattern, entry in pairs if entry]
            self.assertEqual(text, "\n".join([f"letters {table.letters}", f"depth {table.depth}"] + lines))
            self.assertEqual(read_table(text), table)
        for (one, text), (other, other_text) in itertools.combinations(zip(tables, texts), 2):
            self.assertEqual(one == other, text == other_text)

    def test_without_entries(self):
        for letters, depth in (("ab", 1), ("xyz", 5), ("a", 3)):
            self.assertEqual(write_table(Table.unit(letters, depth)), f"letters {letters}\ndepth {depth}")
            self.assertEqual(read_table(f"letters {letters}\ndepth {depth}"), Table.unit(letters, depth))

    def test_nothing_with_this_text(self):
        for lines in (
            ["letters ab"], ["letters ba", "depth 1"], ["letters ab", "depth 0"], ["letters ab", "depth 6"],
            ["letters ab", "depth -1"], ["letters ab", f"depth {LONGEST}"], ["letters ab", "depth 2", "at a 0"],
            ["letters ab", "depth 2", "at aaa 1"], ["letters ab", "depth 2", "at c 1"], ["letters ab", "depth 2", "at A 1"],
            ["letters ab", "depth 2", "at b 1", "at a 1"], ["letters ab", "depth 2", "at a 1", "at a 1"],
            ["letters ab", "depth 2", "at ab 1", "at b 1"], ["letters ab", "depth 2", "at a 1", "at a 2"],
            ["letters ba", "depth 9", "at zz 0"],
        ):
            self.refused_at(len(lines), read_table, "\n".join(lines))

    def test_integers(self):
        for text in NO_INTEGERS:
            self.refused_at(1, read_table, f"letters ab\ndepth {text}")
            self.refused_at(1, read_table, f"letters ab\ndepth {text}\nat")
            self.refused_at(3, read_table, f"letters ab\ndepth 1\nat a 1\nat b {text}")
        self.assertEqual(read_table(f"letters ab\ndepth 1\nat b {-LONGEST}").entries, (0, -LONGEST))


class Leads(Reading):
    def test_there_and_back(self):
        leads = [
            SLIDE, DOUBLE, Lead("a", {"a": Word.of("xyz", "xYzz")}), Lead("ab", {"a": FAR, "b": EMPTY}),
            Lead("xyz", {"x": EMPTY, "y": EMPTY, "z": LONG}), Lead("ab", {"a": Word("ab", alternating(200)), "b": A}),
        ]
        texts = [write_lead(lead) for lead in leads]
        for lead, text in zip(leads, texts):
            told = read_lead(text)
            self.assertEqual([told, told.onto, shown(told)], [lead, lead.onto, shown(lead)])
        self.assertEqual(texts[2], "letters a\nonto xyz\nlead a x 1 y -1 z 2")
        self.assertEqual(texts[3], f"letters ab\nonto ab\nlead a a {10 ** 30} b -2\nlead b")
        for (one, text), (other, other_text) in itertools.combinations(zip(leads, texts), 2):
            self.assertEqual(one == other, text == other_text)

    def test_nothing_with_this_text(self):
        for lines in (
            ["letters ab"], ["letters ab", "onto ab"], ["letters ab", "onto ab", "lead a a 1"],
            ["letters ab", "onto ab", "lead b b 1", "lead a a 1"], ["letters ab", "onto ab", "lead a", "lead a"],
            ["letters ab", "onto ab", "lead a", "lead b", "lead b"], ["letters a", "onto ba", "lead a"],
            ["letters a", "onto ab", "lead a c 1"], ["letters a", "onto ab", "lead a a 0"], ["letters ba", "onto a", "lead a", "lead b"],
            ["letters a", "onto ab", "lead a a 1 a 1"], ["letters a", "onto ab", "lead a A 1"], ["letters a", "onto ab", "lead b"],
            ["letters a", "onto ab", "lead a" + " a 1 b 1" * 100 + " a 1"], ["letters A", "onto a", "lead A"],
        ):
            self.refused_at(len(lines), read_lead, "\n".join(lines))

    def test_pairs(self):
        for line in ("lead", "lead ", "lead a a", "lead a a 1 b", "lead a 1 a", "lead a a 1 b c", "lead  a", "lead a  1", "lead a a 1 "):
            self.refused_at(2, read_lead, f"letters a\nonto ab\n{line}\nwrong")
        for text in NO_INTEGERS:
            self.refused_at(2, read_lead, f"letters a\nonto ab\nlead a a 1 b {text}")
        self.assertEqual(read_lead(f"letters a\nonto ab\nlead a b {-LONGEST}")["a"].runs, (("b", -LONGEST),))


class Lines(Reading):
    def test_lines_too_few_too_many_and_exchanged(self):
        for call, text in READERS:
            lines = text.split("\n")
            self.assertEqual(len([call(text)]), 1)
            for at in range(len(lines)):
                self.refused(ParseError, call, "\n".join(lines[:at] + ["", lines[at]] + lines[at + 1:]))
                self.refused_at(at, call, "\n".join(lines[:at] + [""] + lines[at:]))
                self.refused_at(at, call, "\n".join(lines[:at] + ["wrong"] + lines[at + 1:] + ["wrong"]))
                self.refused_at(at, call, "\n".join(lines[:at] + [lines[at] + " "] + lines[at + 1:]))
                self.refused_at(at, call, "\n".join(lines[:at] + [" " + lines[at]] + lines[at + 1:]))
                self.refused_at(at, call, "\n".join(lines[:at] + [lines[at].replace(" ", "  ", 1)] + lines[at + 1:]))
                self.refused_at(at, call, "\n".join(lines[:at] + [lines[at] + " more"] + lines[at + 1:]))
                self.refused_at(at, call, "\n".join(lines[:at] + [lines[at].replace(" ", "\t", 1)] + lines[at + 1:]))
                self.refused_at(at, call, "\n".join(lines[:at] + [lines[at].capitalize()] + lines[at + 1:]))
            self.refused_at(len(lines), call, text + "\n")
            self.refused_at(0, call, "\n" + text)
            self.refused_at(0, call, "")
            self.refused_at(0, call, "\n\n")
            self.refused_at(0, call, "\n".join(lines[1:]))
            self.refused_at(0, call, "\n".join([lines[1], lines[0]] + lines[2:]))

    def test_words_are_any_signs(self):
        # A line of the right form with wrong words is found at the end alone.
        for word in ("?", "\t", "a\rb", "\u00e9", "-1", "=", "a" * 5000):
            self.refused_at(1, read_word, f"letters {word}")
            self.refused_at(2, read_word, f"letters ab\nrun {word} 1")
            self.refused_at(3, read_table, f"letters ab\ndepth 1\nat {word} 1")
            self.refused_at(3, read_lead, f"letters a\nonto {word}\nlead a")
            self.refused_at(3, read_lead, f"letters a\nonto a\nlead a {word} 1")

    def test_no_other_line_breaks(self):
        for sign in ("\r\n", "\r", "\x0b", "\x0c", "\x1c", "\u2028", "\x85"):
            self.refused(ParseError, read_word, f"letters ab{sign}run a 1")

    def test_long_texts(self):
        many = 20000
        self.refused_at(many + 1, read_word, "letters ab" + "\nrun a 1\nrun b 1" * (many // 2))
        self.refused_at(many + 1, read_word, "letters ab" + "\nrun a 1\nrun b 1" * (many // 2) + "\nrun a")


class Values(Reading):
    def values(self):
        found = [0, 1, -1, LONGEST, -LONGEST, None, "", "a", "aB", "Z" * 5000, "none", (), ((),), ("",), (None,), (0, ("a",), ()), nested(8)]
        found += [
            paper(ODD), paper(LEAN), parting(SWAP, TWO), parting(SWAP, SWAP), root_paper(LEAN, 2), turn_paper(TWICE, LEAN),
            turn_paper(TWICE, TWICE), ("world", "ab", 2), (1, (2, (3, (4, (5, (6, (7, (8,)))))))), ("a",) * 500,
        ]
        source = random.Random(1)
        for _ in range(60):
            found.append(self.some(source, 5))
        return found

    def some(self, source, deep):
        if deep and source.random() < 0.6:
            return tuple(self.some(source, deep - 1) for _ in range(source.randrange(4)))
        return source.choice((None, "", "abC", "none", 0, -7, 10 ** 40, source.randrange(100)))

    def test_there_and_back(self):
        values = self.values()
        texts = [write_value(value) for value in values]
        for value, text in zip(values, texts):
            self.assertEqual(shown(read_value(text)), shown(value))
            self.assertEqual(text, self.slow_text(value))
            self.assertNotIn("\n", text)
        for (one, text), (other, other_text) in itertools.combinations(zip(values, texts), 2):
            self.assertEqual(shown(one) == shown(other), text == other_text)

    def slow_text(self, value):
        if isinstance(value, tuple):
            return " ".join(["("] + [self.slow_text(part) for part in value] + [")"])
        return "none" if value is None else "=" + value if isinstance(value, str) else str(value)

    def test_values_without_a_text(self):
        for value in (
            True, False, [], [1], {}, {"a": 1}, "a b", "1", "a1", "=", "\n", "\u00e9", "-", TOO_LONG, -TOO_LONG, SWAP,
            ODD, SLIDE, (1, True), (1, [2]), ((1, ("?",)),), nested(9), ((((((((((),),),),),),),),),), (SWAP,), (1, TOO_LONG),
        ):
            self.refused(InvalidOperation, write_value, value)
        for value in all_kinds():
            try:
                text = write_value(value)
            except InvalidOperation:
                continue
            self.assertEqual(shown(read_value(text)), shown(value))

    def test_eight_and_nine(self):
        for deep in range(1, 12):
            text = "( " * deep + "5" + " =a )" * deep
            value = nested(deep)
            empty = " ".join("(" * deep + ")" * deep)
            if deep <= 8:
                self.assertEqual([write_value(value), read_value(text)], [text, value])
                self.assertEqual(write_value(read_value(empty)), empty)
            else:
                self.refused(InvalidOperation, write_value, value)
                self.refused_at(0, read_value, text)
                self.refused_at(0, read_value, empty)
        # Tuples side by side do not make one deeper.
        self.assertEqual(read_value("( ( ) ( ( ) ) ( ) )"), ((), ((),), ()))

    def test_texts_of_no_value(self):
        for text in (
            "", " ", "(", ")", "( ", " )", "()", "( )  ", " ( )", "(  )", "( 1 )  ", "1 2", "1 ", " 1", "( ) ( )", ") (",
            "( 1", "1 )", "5 (", "5 ( 1", "( ) (", "( ( )", "( ) )", "=a b", "=a1", "= a", "=\u00e9", "a", "None", "NONE", "non", "( none none)",
            "true", "=-", "==a", "( =a\t=b )", "(1 )", "( 1)", "=a\r", "none none",
        ) + NO_INTEGERS:
            self.refused_at(0, read_value, text)
            self.refused_at(0, read_value, text + "\n")
            self.refused_at(0, read_value, text + "\n1")

    def test_one_line(self):
        for text in ("1", "( )", "=", "none", "( =a 1 )"):
            self.assertEqual(write_value(read_value(text)), text)
            for more in ("\n", "\n1", "\n\n", "\nwrong", "\n" + text):
                self.refused_at(1, read_value, text + more)
            self.refused_at(0, read_value, "\n" + text)

    def test_true_is_not_one(self):
        self.assertIs(read_value("1").__class__, int)
        self.assertEqual([read_value("none"), read_value("=none"), read_value("=")], [None, "none", ""])


class Wrong(Arguments):
    def test_arguments(self):
        self.check(write_word, WORD)
        self.check(write_table, TABLE)
        self.check(write_lead, LEAD)
        for call in (read_word, read_table, read_lead, read_value):
            for value in all_but(lambda value: isinstance(value, str)):
                self.refused(InvalidOperation, call, value)
            for value in all_kinds():
                if isinstance(value, str) and (call is not read_value or value not in ("1", "-1")):
                    self.refused(ParseError, call, value)


if __name__ == "__main__":
    unittest.main()
