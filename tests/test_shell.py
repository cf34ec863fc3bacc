"""Stage 18: the shell."""

import random
import unittest

from signedcounts.base.names import is_letters
from signedcounts.desk.desk import Desk
from signedcounts.errors import InvalidLetters, InvalidNumber
from signedcounts.lead.leads import Lead
from signedcounts.power.roots import greatest_root
from signedcounts.table.brackets import exponents
from signedcounts.text.formats import write_value
from signedcounts.text.shell import Shell
from signedcounts.turn.commuting import table_level
from signedcounts.turn.turned import are_turned
from signedcounts.word.apart import parting
from signedcounts.word.words import Word
from checks import Arguments, Kind
from values import LONGEST, TOO_LONG, TWO, all_but, all_kinds, calls_of, shown, within

LETTERS = Kind(InvalidLetters, is_letters, ["ab"], ["ba", "aa"])
DEPTH = Kind(InvalidNumber, within(1, 5), [2], [0, 6])
# Each command as it can be given to a desk of the letters ab with the words one and two.
COMMANDS = (
    "put one =aab", "take one", "join one two", "turn one two", "cross one two", "flip one", "lead a =ab b =b",
    "deepen 3", "undo", "undo 2", "redo 0", "names", "word one", "depth", "count one ab", "count one", "exponents one",
    "level one", "root one", "alike", "crossing", "same one two", "turned one two", "parts",
)


def some_shell():
    shell = Shell("ab", 2)
    shell("put one =aab")
    shell("put two =abA")
    return shell


class Examples(unittest.TestCase):
    def test_all(self):
        shell = Shell("ab", 2)
        told = [
            shell("put one =aab"), shell("put two =abA"), shell("count one ab"), shell("count one"),
            shell("exponents one"), shell("level one"), shell("crossing"), shell("turned one two"), shell("word two"),
            shell("names"),
        ]
        self.assertEqual(told, ["done", "done", "2", "1", "2 1 0", "1", "one-two", "no", "=abA", "one two"])
        told = [
            shell("same one one"), shell("root one"), shell("parts"), shell("join one three"), shell("put one =c"),
            shell("lead a =ab b =b"), shell("word one"), shell("deepen 9"), shell("undo 9"), shell("lead b =b a =a"),
            shell("alike"),
        ]
        self.assertEqual(told, [
            "( =equal )", "1", "4", "unknown three", "text", "done", "=ababb", "number 9", "undo 9", "what", "none"])


class Making(Arguments):
    def test_arguments(self):
        self.check(Shell, LETTERS, DEPTH)

    def test_a_twin_of_the_desk(self):
        shell = some_shell()
        desk = shell.desk()
        self.assertEqual([desk.names, desk["one"], desk.letters, desk.depth], [("one", "two"), TWO, "ab", 2])
        desk.take("one")
        self.assertEqual([shell("names"), shell.desk().undo(many=2), shell("names")], ["one two", 0, "one two"])
        shell("flip one")
        self.assertEqual([desk.names, shell("undo 3"), shell("names")], [("two",), "done", "none"])

    def test_answer_is_the_same(self):
        one, other = Shell("ab", 2), Shell("ab", 2)
        for line in COMMANDS + ("what", "", "put x", "take x"):
            self.assertEqual(one(line), other.answer(line))
        self.assertEqual(shown(one), shown(other))


class Commands(unittest.TestCase):
    def test_the_desk_by_the_same_calls(self):
        for seed in range(12):
            source = random.Random(seed)
            shell, desk = Shell("ab", 2), Desk("ab", 2)
            for _ in range(25):
                line, call = self.some_call(source)
                try:
                    call(desk)
                except Exception:
                    self.assertNotEqual(shell(line), "done")
                else:
                    self.assertEqual(shell(line), "done")
                self.assertEqual(shown(shell.desk()), shown(desk))

    def some_call(self, source):
        one, other = source.choice(("one", "two", "x")), source.choice(("one", "two", "y"))
        text = "".join(source.choice("abAB") for _ in range(source.randrange(6)))
        number = source.randrange(5)
        led = [Word.of("ab", "".join(source.choice("abAB") for _ in range(2))) for _ in "ab"]
        lead = Lead("ab", dict(zip("ab", led)))
        return source.choice((
            (f"put {one} ={text}", lambda desk: desk.put(one, Word.of("ab", text))),
            (f"put {one} ={text}", lambda desk: desk.put(one, Word.of("ab", text))),
            (f"take {one}", lambda desk: desk.take(one)), (f"join {one} {other}", lambda desk: desk.join(one, other)),
            (f"turn {one} {other}", lambda desk: desk.turn(one, other)),
            (f"cross {one} {other}", lambda desk: desk.cross(one, other)), (f"flip {one}", lambda desk: desk.flip(one)),
            (f"lead a ={led[0].shortest()} b ={led[1].shortest()}", lambda desk: desk.lead_all(lead)),
            (f"deepen {number}", lambda desk: desk.deepen(number)), ("undo", lambda desk: desk.undo()),
            (f"undo {number}", lambda desk: desk.undo(many=number)), ("redo", lambda desk: desk.redo()),
            (f"redo {number}", lambda desk: desk.redo(many=number)),
        ))

    def test_questions(self):
        for texts in (("aab", "abA"), ("", "abAB"), ("aabb" * 2, "bbaa" * 2), ("a", "bbbaBBB"), ("aaa", "aaa")):
            shell = Shell("ab", 3)
            for name, text in zip(("one", "two"), texts):
                shell(f"put {name} ={text}")
            desk = shell.desk()
            before = shown(desk)
            one, other = desk.table("one"), desk.table("two")
            self.assertEqual(shell("names"), "one two")
            self.assertEqual(shell("word one"), "=" + desk["one"].shortest())
            self.assertEqual(shell("depth"), "3")
            for pattern in ("a", "ab", "abab"):
                self.assertEqual(shell(f"count two {pattern}"), str(desk.counted("two", pattern)))
            self.assertEqual(shell("count two"), "1")
            self.assertEqual(shell("exponents two"), " ".join(str(number) for number in exponents(other)))
            self.assertEqual(shell("level one"), "none" if table_level(one) is None else str(table_level(one)))
            if any(one.entries):
                self.assertEqual(shell("root one"), str(greatest_root(one)[1]))
            else:
                self.assertEqual(shell("root one"), "operation")
            self.assertEqual(shell("alike"), "one-two" if one == other else "none")
            self.assertEqual(shell("crossing"), "one-two" if one * other != other * one else "none")
            self.assertEqual(shell("same one two"), write_value(parting(desk["one"], desk["two"])))
            self.assertEqual(shell("turned one two"), "yes" if are_turned(one, other) else "no")
            self.assertEqual(shell("parts"), "none" if desk.club().parts is None else str(desk.club().parts))
            self.assertEqual(shown(shell.desk()), before)

    def test_some_answers(self):
        shell = Shell("ab", 2)
        lines = (
            ("names", "none"), ("alike", "none"), ("crossing", "none"), ("parts", "none"), ("depth", "2"),
            ("put one =", "done"), ("word one", "="), ("level one", "none"), ("exponents one", "0 0 0"),
            ("put b =abAB", "done"), ("put a =abAB", "done"), ("put c =ba", "done"), ("names", "a b c one"),
            ("alike", "a-b"), ("crossing", "none"), ("put d =a", "done"), ("crossing", "c-d"), ("level a", "2"),
            ("deepen 1", "done"), ("alike", "a-b a-one b-one"), ("crossing", "none"), ("undo", "done"),
            ("redo", "done"), ("redo", "undo 1"), ("redo 0", "done"), ("depth", "1"), ("parts", "1"),
            ("same a b", "( =equal )"), ("same a c", None), ("turned c d", "no"),
            ("turned a b", "yes"), ("put d =aab", "done"), ("put c =aba", "done"), ("deepen 5", "done"),
            ("turned c d", "yes"), ("count c aba", "1"), ("count a ba", "-1"), ("root a", "1"),
        )
        for line, answer in lines:
            told = shell(line)
            if answer is not None:
                self.assertEqual(told, answer, line)
        self.assertEqual(shell("same a c").split(" ")[:2], ["(", "=world"])

    def test_letters_of_the_desk(self):
        shell = Shell("xyz", 1)
        for line, answer in (
            ("put one =xYz", "done"), ("lead x =y y =z z =x", "done"), ("word one", "=yZx"), ("put one =a", "text"),
            ("lead x =y y =z", "what"), ("lead x =y z =z y =x", "what"), ("lead x =y y =z z =x z =x", "what"),
            ("lead x =y y =z z =a", "text"), ("lead a =x b =y", "what"), ("count one a", "pattern"), ("lead", "what"),
        ):
            self.assertEqual(shell(line), answer, line)

    def test_long_words(self):
        shell = Shell("ab", 2)
        for line, answer in (
            ("put one =" + "a" * 4000, "done"), ("word one", "=" + "a" * 4000), ("put two =b", "done"),
            ("join one two", "done"), ("word one", "long"), ("flip one", "done"), ("word one", "long"),
            ("count one b", "-1"), ("take two", "done"), ("lead a =b b =", "done"), ("word one", "=" + "B" * 4000),
        ):
            self.assertEqual(shell(line), answer, line[:30])

    def test_long_numbers(self):
        shell = Shell("ab", 1)
        shell("put one =a")
        for _ in range(100):
            shell("lead a =" + "a" * 1000 + " b =b")
        self.assertEqual([shell("count one a"), shell("root one"), shell("exponents one")], [
            "1" + "0" * 300, "1" + "0" * 300, "1" + "0" * 300 + " 0"])


class Errors(unittest.TestCase):
    def check(self, lines, shell):
        for line, answer in lines:
            before = shown(shell)
            self.assertEqual(shell(line), answer, line[:60])
            self.assertEqual(shown(shell), before)

    def test_unknown(self):
        lines = [(f"{word} nobody", "unknown nobody") for word in ("take", "flip", "word", "count", "exponents", "level", "root")]
        lines += [(f"{word} nobody two", "unknown nobody") for word in ("join", "turn", "cross", "same", "turned")]
        lines += [(f"{word} one nobody", "unknown nobody") for word in ("join", "turn", "cross", "same", "turned")]
        lines += [(f"{word} x y", "unknown x") for word in ("join", "turn", "cross", "same", "turned")]
        lines += [("take ONE", "unknown ONE"), ("take ninesigns", "unknown ninesigns"), ("word one\n", "unknown one\n")]
        lines += [("count nobody abc", "unknown nobody"), ("take 1", "unknown 1"), ("word =a", "unknown =a")]
        self.check(lines, some_shell())

    def test_names_texts_and_patterns(self):
        self.check((
            ("put One =a", "name"), ("put ninesigns =a", "name"), ("put a1 =a", "name"), ("put =a =a", "name"),
            ("put one\n =a", "name"), ("put One =c", "text"), ("put one =abc", "text"), ("put one =C", "text"),
            ("put one =" + "a" * 4001, "text"), ("lead a =ab b =c", "text"), ("lead a =z b =c", "text"),
            ("count one abc", "pattern"), ("count one " + "a" * 401, "pattern"), ("count one c", "pattern"),
            ("put One =" + "ab" * 101, "many 200"), ("put one =" + "ab" * 101, "many 200"),
            ("lead a =" + "ab" * 101 + " b =c", "many 200"), ("lead a =c b =" + "ab" * 101, "text"),
        ), some_shell())

    def test_numbers(self):
        self.check((
            ("deepen 0", "number 0"), ("deepen 6", "number 6"), (f"deepen {LONGEST}", f"number {LONGEST}"),
            ("undo 3", "undo 3"), ("redo", "undo 1"), ("redo 1", "undo 1"), (f"undo {LONGEST}", f"undo {LONGEST}"),
            ("deepen 06", "what"), ("deepen -1", "what"), ("deepen +1", "what"), (f"deepen {TOO_LONG}", "what"),
            ("undo -1", "what"), ("undo 01", "what"), ("undo one", "what"), ("undo 1 1", "what"), ("deepen", "what"),
            ("redo -0", "what"), ("undo \u0661", "what"), ("redo x", "what"), ("undo 1.0", "what"), ("deepen 3\n", "what"),
        ), some_shell())

    def test_operations_and_too_many(self):
        shell = Shell("ab", 2)
        self.check((("undo", "undo 1"), ("undo 2", "undo 2")), shell)
        for name in "abcdefgh":
            self.assertEqual(shell(f"put {name} ="), "done")
        self.check((("put i =a", "operation"), ("put i =c", "text"), ("root a", "operation"), ("put I =a", "name")), shell)
        shell("put a =" + "ab" * 100)
        shell("put b =a")
        self.check((
            ("join a b", "many 200"), ("cross a b", "many 200"), ("turn a b", "many 200"), ("join a a", "many 200"),
            ("lead a =ab b =ba", "many 200"),
        ), shell)
        wide = Shell("abc", 4)
        self.check((("parts", "many 14"),), wide)
        wide("put one =abc")
        self.check((("parts", "many 14"),), wide)

    def test_half_way_through(self):
        shell = Shell("ab", 2)
        for line in ("put a =a", "put b =b", "put z =" + "a" * 101):
            shell(line)
        self.check((("lead a =ab b =b", "many 200"),), shell)
        self.assertEqual([shell("word a"), calls_of(shell.desk())], ["=a", (3, 0)])


class What(unittest.TestCase):
    def test_words_too_many_and_too_few(self):
        for line in COMMANDS:
            words = line.split(" ")
            shell = some_shell()
            before = shown(shell)
            optional = {"count one ab": 2, "undo 2": 1, "redo 0": 1}
            for size in range(len(words)):
                if size != optional.get(line):
                    self.assertEqual(shell(" ".join(words[:size])), "what", line)
            self.assertEqual(shell(line + " more more more"), "what")
            if line not in ("count one", "undo"):
                self.assertEqual(shell(line + " more"), "what")
            self.assertEqual(shown(shell), before)

    def test_blanks_and_newlines(self):
        for line in COMMANDS:
            shell = some_shell()
            before = shown(shell)
            for other in (line + " ", " " + line, line.replace(" ", "  ", 1), line.replace(" ", "\t"), line.replace(" ", "\n", 1)):
                if other != line:
                    self.assertEqual(shell(other), "what", other)
            first = line.split(" ")[0]
            for word in (first.upper(), first + "s", first[:-1], first + "\n", "\n" + first, first + "\r"):
                self.assertEqual(shell(" ".join([word] + line.split(" ")[1:])), "what")
            self.assertEqual(shown(shell), before)

    def test_words_of_another_kind(self):
        shell = some_shell()
        before = shown(shell)
        for line in (
            "put one aab", "put one a=b", "put one =a1", "put one =a=", "put one =\u00e9", "put one = a", "put =a", "put one =a\n",
            "count one aB", "count one a1", "count one =a", "count one a b", "count one A", "count one \n", "count",
            "lead a ab b b", "lead a =ab b =1", "lead a =ab", "lead A =a B =b", "lead a =a b =b c =c", "lead a =ab b",
            "lead =ab =b", "", " ", "\n", "what", "none", "done", "desk", "answer", "write one", "names one", "depth 2",
            "trial", "twin", "club", "put", "alike one", "crossing one two", "parts one", "nameS", "lead a =a  b =b",
        ):
            self.assertEqual(shell(line), "what", line)
        self.assertEqual(shown(shell), before)

    def test_values_that_are_no_strings(self):
        for value in all_but(lambda value: isinstance(value, str)) + [["names"], ("names",), b"names"]:
            shell = some_shell()
            before = shown(shell)
            self.assertEqual([shell(value), shell.answer(value), shown(shell)], ["what", "what", before])

    def test_strings_of_all_kinds(self):
        for value in all_kinds():
            if isinstance(value, str):
                self.assertEqual(Shell("ab", 2)(value), "what")


if __name__ == "__main__":
    unittest.main()
