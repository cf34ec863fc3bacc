"""Point 16.1: words at work at a desk."""

import itertools
import random
import unittest

from signedcounts.base.names import is_letters, is_name, is_pattern
from signedcounts.club.clubs import Club
from signedcounts.count.counts import count
from signedcounts.desk.desk import MAX_KEPT, Desk
from signedcounts.errors import (
    InvalidLetters, InvalidName, InvalidNumber, InvalidOperation, InvalidPattern, InvalidWord, NothingToUndo, TooMany,
    UnknownName,
)
from signedcounts.lead.leads import Lead
from signedcounts.table.tables import Table
from signedcounts.turn.commuting import do_commute
from signedcounts.word.words import Word
from checks import Arguments, Kind, Refusals
from values import (
    A, B, DOUBLE, EMPTY, FAR, LONGEST, SLIDE, SWAP, TOO_LONG, TWO, all_but, all_kinds, alternating, calls_of, is_lead,
    is_word, shown, some_desk, some_words, within,
)

LETTERS = Kind(InvalidLetters, is_letters, ["ab"], ["ba", "aa"])
DEPTH = Kind(InvalidNumber, within(1, 5), [2], [0, 6])
NAME = Kind(InvalidName, is_name, ["one"], ["", "One", "ninesigns"])
KNOWN = Kind(UnknownName, lambda value: value in ("one", "two"), ["one", "two"], ["", "One", "three"])
WORD = Kind(InvalidWord, is_word, [SWAP])
LEAD = Kind(InvalidOperation, is_lead, [SLIDE])
MANY = Kind(InvalidNumber, within(0, LONGEST), [0], [-1, True, False, TOO_LONG])
FULL = Word("ab", alternating(200))


class Model:
    """A desk as the document tells it: all its states, and which is the present one."""

    def __init__(self, depth):
        self.states, self.at = [(depth, {})], 0

    def now(self):
        return self.states[self.at]

    def go_on(self, depth, words):
        self.states = self.states[:self.at + 1] + [(depth, words)]
        self.at += 1


def seen(desk):
    """What is seen of a desk, without what can be undone."""
    return desk.letters, desk.depth, [(name, desk[name].runs) for name in desk]


def without(words, name):
    left = dict(words)
    del left[name]
    return left


def calls_that_change(source):
    """Calls, each with what it makes of a depth and a dict of words."""
    word = source.choice(some_words("ab", 6, source.randrange(50), 3) + [A, B])
    one, other = source.choice(("one", "two", "three", "x")), source.choice(("one", "two", "three", "y"))
    depth = source.randint(1, 4)
    lead = source.choice((SLIDE, DOUBLE))
    return source.choice((
        (lambda desk: desk.put(one, word), lambda now: (now[0], {**now[1], one: word})),
        (lambda desk: desk.take(one), lambda now: (now[0], without(now[1], one))),
        (lambda desk: desk.join(one, other), lambda now: (now[0], {**now[1], one: now[1][one] * now[1][other]})),
        (lambda desk: desk.turn(one, other), lambda now: (now[0], {**now[1], one: now[1][one].turned(now[1][other])})),
        (lambda desk: desk.cross(one, other), lambda now: (now[0], {**now[1], one: now[1][one].bracket(now[1][other])})),
        (lambda desk: desk.flip(one), lambda now: (now[0], {**now[1], one: ~now[1][one]})),
        (lambda desk: desk.lead_all(lead), lambda now: (now[0], {name: lead(now[1][name]) for name in now[1]})),
        (lambda desk: desk.deepen(depth), lambda now: (depth, now[1])),
    ))


class Examples(unittest.TestCase):
    def test_all(self):
        desk = Desk("ab", 2)
        told = [
            desk.put("one", TWO), desk.put("two", A), desk.cross("one", "two"), desk["one"].shortest(),
            desk.counted("one", "ab"), desk.alike(), desk.crossing(), str(desk), desk.undo(), desk["one"] == TWO,
        ]
        self.assertEqual(told, [
            None, None, None, "aabaBAAA", -1, (), (), "desk of 2 words, depth 2 over ab", 2, True])
        told = [
            desk.crossing(), desk.club().rows, desk.deepen(1), desk.crossing(), desk.flip("two"),
            desk["two"].shortest(), desk.undo(many=2), desk.depth,
        ]
        self.assertEqual(told, [(("one", "two"),), ((1, 0, 0), (0, 1, 0), (0, 0, 1)), None, (), None, "A", 2, 2])
        told = [
            desk.put("far", FAR), desk.join("two", "far"), desk["two"].runs == (("a", 10 ** 30 + 1), ("b", -2)),
            desk.lead_all(DOUBLE), desk["one"].shortest(), desk.undo(many=0),
        ]
        self.assertEqual(told, [None, None, True, None, "aaaab", 5])


class Words(Arguments):
    def test_new_desk(self):
        for letters, depth in (("ab", 2), ("z", 5), ("abc", 1)):
            desk = Desk(letters, depth)
            self.assertEqual([desk.letters, desk.depth, desk.names, len(desk), list(desk)], [letters, depth, (), 0, []])
            self.assertEqual(str(desk), f"desk of 0 words, depth {depth} over {letters}")
            self.assertEqual([desk.undo(many=0), desk.redo(many=0), desk.alike(), desk.crossing()], [0, 0, (), ()])
            self.assertEqual(bool(desk.names), False)
        self.check(Desk, LETTERS, DEPTH)

    def test_names_ascending(self):
        desk = Desk("ab", 2)
        for name in ("two", "one", "z", "a", "twoo", "oneone"):
            self.assertIs(desk.put(name, TWO), None)
        self.assertEqual(desk.names, ("a", "one", "oneone", "two", "twoo", "z"))
        self.assertEqual([list(desk), len(desk)], [list(desk.names), 6])
        self.assertEqual(["one" in desk, "on" in desk, desk["one"]], [True, False, TWO])

    def test_eight_words(self):
        desk = Desk("ab", 2)
        for name in "hgfedcba":
            desk.put(name, Word.of("ab", "a"))
        self.assertEqual([MAX_KEPT, len(desk)], [8, 8])
        before = shown(desk)
        self.refused(InvalidOperation, desk.put, "i", TWO)
        self.refused(InvalidOperation, desk.put, "i", A.over("abc"))
        self.refused(InvalidName, desk.put, "I", TWO)
        self.assertEqual(shown(desk), before)
        desk.put("c", TWO)
        self.assertEqual([desk["c"], len(desk), desk.undo(many=0)], [TWO, 8, 9])
        desk.take("a")
        desk.put("i", TWO)
        self.assertEqual(desk.names, tuple("bcdefghi"))

    def test_what_the_calls_do(self):
        for one, other in itertools.product(some_words("ab", 4, 1, 4) + [FAR], repeat=2):
            for call, wanted in (
                (Desk.join, one * other), (Desk.turn, one.turned(other)), (Desk.cross, one.bracket(other)),
            ):
                desk = Desk("ab", 2)
                desk.put("x", one)
                desk.put("y", other)
                self.assertIs(call(desk, "x", "y"), None)
                self.assertEqual([desk["x"], desk["y"]], [wanted, other])
            self.assertIs(desk.flip("y"), None)
            self.assertEqual([desk["y"], desk.take("y"), desk.names], [~other, None, ("x",)])

    def test_a_word_with_itself(self):
        desk = Desk("ab", 2)
        desk.put("x", SWAP)
        for call, wanted in ((desk.turn, SWAP), (desk.join, SWAP.power(2)), (desk.cross, EMPTY)):
            call("x", "x")
            self.assertEqual(desk["x"], wanted)

    def test_lead_all(self):
        desk = some_desk()
        desk.lead_all(SLIDE)
        self.assertEqual([desk["one"], desk["two"]], [SLIDE(TWO), SLIDE(A)])
        empty = Desk("ab", 2)
        empty.lead_all(SLIDE)
        self.assertEqual(empty.undo(), 0)

    def test_tables_and_counts(self):
        desk = some_desk()
        for depth in (1, 3, 5):
            desk.deepen(depth)
            self.assertEqual([desk.depth, desk.table("one"), desk.table("two")], [depth, Table.of(TWO, depth), Table.of(A, depth)])
        for pattern in ("", "a", "ab", "aab", "aabaab", "b" * 400):
            self.assertEqual(desk.counted("one", pattern), count(TWO, pattern))

    def test_alike_and_crossing(self):
        for seed in range(6):
            words = dict(zip("abcdefgh", some_words("ab", 5, seed, 3, (-1, 1)) + [A, A.power(2), SWAP]))
            desk = Desk("ab", 2)
            for name in sorted(words, reverse=True):
                desk.put(name, words[name])
            tables = {name: Table.of(words[name], 2) for name in words}
            pairs = list(itertools.combinations(sorted(words), 2))
            alike = tuple(pair for pair in pairs if tables[pair[0]] == tables[pair[1]])
            crossing = tuple(pair for pair in pairs if not do_commute(tables[pair[0]], tables[pair[1]]))
            self.assertEqual([desk.alike(), desk.crossing()], [alike, crossing])
        desk = Desk("ab", 1)
        desk.put("b", SWAP)
        desk.put("a", EMPTY)
        self.assertEqual([desk.alike(), desk.crossing(), desk.deepen(2), desk.alike()], [(("a", "b"),), (), None, ()])

    def test_club(self):
        desk = some_desk()
        self.assertEqual(desk.club(), Club("ab", 2, (Table.of(TWO, 2), Table.of(A, 2))))
        self.assertEqual(Desk("ab", 3).club(), Club("ab", 3, ()))
        for letters, depth, right in (("abc", 3, True), ("abc", 4, False), ("abc", 5, False), ("ab", 5, True)):
            for many in (0, 1):
                desk = Desk(letters, depth)
                if many:
                    desk.put("x", Word.of(letters, "ab"))
                if right:
                    self.assertEqual(len(desk.club()), many)
                else:
                    self.refused_many(14, desk.club)


class Comparing(unittest.TestCase):
    def test_equal(self):
        one, other = some_desk(), some_desk()
        other.undo(many=2)
        self.assertEqual([one == other, one != other], [False, True])
        other.put("two", A)
        other.put("one", TWO)
        self.assertEqual([one == other, one != other, calls_of(one), calls_of(other)], [True, False, (2, 1), (2, 0)])
        other.redo(many=0)
        other.deepen(3)
        self.assertNotEqual(one, other)
        other.deepen(2)
        self.assertEqual(one, other)
        self.assertNotEqual(Desk("ab", 2), Desk("abc", 2))
        for value in all_kinds():
            same = isinstance(value, Desk)
            self.assertEqual([one == value, one != value], [same, not same])

    def test_is_there(self):
        desk = some_desk()
        for value in all_kinds() + ["one", "two", "three", "One"]:
            self.assertIs(value in desk, value in ("one", "two"))


class Undoing(Arguments):
    def test_like_the_model(self):
        for seed in range(25):
            source = random.Random(seed)
            desk, model = Desk("ab", 2), Model(2)
            for _ in range(40):
                kind = source.randrange(5)
                if kind < 3:
                    self.change(desk, model, *calls_that_change(source))
                else:
                    self.step(desk, model, source.randrange(4), kind == 3)
                depth, words = model.now()
                self.assertEqual(seen(desk), ("ab", depth, [(name, words[name].runs) for name in sorted(words)]))
                self.assertEqual(desk.undo(many=0), model.at)

    def change(self, desk, model, call, effect):
        try:
            wanted = effect(model.now())
        except (KeyError, TooMany):
            self.assertRaises((UnknownName, TooMany), call, desk)
        else:
            self.assertIs(call(desk), None)
            model.go_on(*wanted)

    def step(self, desk, model, many, back):
        most = model.at if back else len(model.states) - 1 - model.at
        call = desk.undo if back else desk.redo
        if many > most:
            with self.assertRaises(NothingToUndo) as caught:
                call(many=many)
            self.assertEqual(caught.exception.many, many)
        else:
            model.at += -many if back else many
            self.assertEqual(call(many=many), model.at)

    def test_all_and_one_more(self):
        desk = some_desk()
        states = [shown(desk)]
        self.assertEqual(self.refused(NothingToUndo, lambda: desk.undo(many=3)).many, 3)
        self.assertEqual(self.refused(NothingToUndo, lambda: desk.redo(many=2)).many, 2)
        self.assertEqual(self.refused(NothingToUndo, lambda: desk.undo(many=LONGEST)).many, LONGEST)
        self.assertEqual(shown(desk), states[0])
        self.assertEqual([desk.undo(many=2), len(desk), desk.redo(many=3), desk["one"]], [0, 0, 3, TWO.bracket(A)])
        self.assertEqual(self.refused(NothingToUndo, desk.redo).many, 1)
        self.assertEqual([desk.undo(), shown(desk)], [2, states[0]])
        empty = Desk("ab", 2)
        self.assertEqual([self.refused(NothingToUndo, call).many for call in (empty.undo, empty.redo)], [1, 1])

    def test_calls_that_change_nothing(self):
        for call in (
            lambda desk: desk.put("two", A), lambda desk: desk.deepen(2), lambda desk: desk.turn("two", "two"),
            lambda desk: desk.lead_all(Lead("ab", {"a": A, "b": B})),
        ):
            desk = some_desk()
            before = seen(desk)
            self.assertEqual([calls_of(desk), call(desk), seen(desk), calls_of(desk)], [(2, 1), None, before, (3, 0)])
            self.refused(NothingToUndo, desk.redo)
            self.assertEqual([desk.undo(), seen(desk), desk.undo(), desk.names], [2, before, 1, ("one",)])

    def test_a_new_call_ends_redoing(self):
        for call in (
            lambda desk: desk.put("x", A), lambda desk: desk.take("one"), lambda desk: desk.join("one", "two"),
            lambda desk: desk.turn("one", "two"), lambda desk: desk.cross("one", "two"), lambda desk: desk.flip("one"),
            lambda desk: desk.lead_all(SLIDE), lambda desk: desk.deepen(3),
        ):
            desk = some_desk()
            before = seen(desk)
            self.assertEqual([calls_of(desk), call(desk), calls_of(desk)], [(2, 1), None, (3, 0)])
            after = seen(desk)
            self.assertEqual([desk.undo(), seen(desk), desk.redo(), seen(desk)], [2, before, 3, after])

    def test_questions_do_not_end_redoing(self):
        desk = some_desk()
        desk.table("one"), desk.counted("one", "a"), desk.club(), desk.alike(), desk.crossing(), desk.twin()
        desk.undo(many=0), desk.redo(many=0), len(desk), list(desk), str(desk), desk == desk
        self.assertEqual(calls_of(desk), (2, 1))

    def test_keywords_alone(self):
        desk = some_desk()
        self.assertRaises(TypeError, desk.undo, 1)
        self.assertRaises(TypeError, desk.redo, 1)
        for call in (desk.undo, desk.redo):
            self.check(lambda many, call=call: call(many=many), MANY)


class Refused(Arguments):
    def test_arguments(self):
        desk = some_desk()
        before = shown(desk)
        self.check(desk.put, NAME, WORD)
        for call in (desk.take, desk.flip, desk.table, desk.__getitem__):
            self.check(call, KNOWN)
        for call in (desk.join, desk.turn, desk.cross):
            self.check(call, KNOWN, KNOWN)
        self.check(desk.counted, KNOWN, Kind(InvalidPattern, lambda value: is_pattern("ab", value), ["ab"], ["aB", "c"]))
        self.check(desk.lead_all, LEAD)
        self.check(desk.deepen, DEPTH)
        self.assertEqual(shown(desk), before)

    def test_names_that_are_kept(self):
        desk = some_desk()
        for call in (desk.take, desk.flip, desk.table, desk.__getitem__):
            for value in all_but(lambda value: value in ("one", "two")):
                self.assertEqual(shown(self.refused(UnknownName, call, value).name), shown(value))
        for call in (desk.join, desk.turn, desk.cross):
            self.assertEqual(self.refused(UnknownName, call, "x", "y").name, "x")
            self.assertEqual(self.refused(UnknownName, call, "one", "y").name, "y")
        self.assertEqual(self.refused(UnknownName, desk.counted, "x", 1).name, "x")

    def test_letters(self):
        desk = some_desk()
        before = shown(desk)
        self.refused(InvalidOperation, desk.put, "one", A.over("abc"))
        self.refused(InvalidOperation, desk.put, "new", Word("b", ()))
        over = {letter: Word.of("abc", letter) for letter in "ab"}
        for lead in (Lead("ab", over), Lead("a", {"a": A}), Lead("ac", {"a": A, "c": B})):
            self.refused(InvalidOperation, desk.lead_all, lead)
        self.assertEqual(shown(desk), before)

    def test_too_many_runs(self):
        desk = Desk("ab", 2)
        desk.put("full", FULL)
        desk.put("last", Word("ab", alternating(199)))
        desk.put("a", A)
        desk.put("b", B)
        before = shown(desk)
        for call, values in (
            (desk.join, ("full", "a")), (desk.join, ("full", "full")), (desk.turn, ("full", "a")),
            (desk.cross, ("full", "a")), (desk.cross, ("a", "full")),
        ):
            self.refused_many(200, call, *values)
        self.assertEqual(shown(desk), before)
        desk.join("last", "b")
        self.assertEqual(len(desk["last"]), 200)

    def test_half_way_through(self):
        # Of the words that are led, the first ones stay short, and the last one becomes too long.
        desk = Desk("ab", 2)
        for name, word in (("a", A), ("b", B), ("c", TWO), ("z", Word("ab", (("a", 101),)))):
            desk.put(name, word)
        desk.undo()
        desk.redo()
        before = shown(desk)
        self.refused_many(200, desk.lead_all, SLIDE)
        self.assertEqual(shown(desk), before)
        desk.lead_all(DOUBLE)
        self.assertEqual([desk["z"].runs, desk["c"]], [(("a", 202),), DOUBLE(TWO)])


class Blocks(Refusals):
    def test_as_it_was(self):
        for at_the_end in (False, True):
            desk = some_desk()
            before = shown(desk)
            try:
                with desk.trial() as same:
                    self.assertIs(same, desk)
                    desk.put("x", FAR)
                    desk.take("one")
                    desk.deepen(5)
                    self.assertEqual([desk.names, desk.undo(many=2), desk.depth], [("two", "x"), 3, 2])
                    if at_the_end:
                        desk.take("nobody")
            except UnknownName as error:
                self.assertEqual([at_the_end, error.name], [True, "nobody"])
            else:
                self.assertIs(at_the_end, False)
            self.assertEqual(shown(desk), before)
            self.assertEqual([desk.redo(), desk["one"], desk.undo(many=3), len(desk)], [3, TWO.bracket(A), 0, 0])

    def test_during(self):
        desk = some_desk()
        before = shown(desk)
        told = desk.during(lambda same: (same is desk, same.put("x", A), same.names, same.undo(many=3)))
        self.assertEqual([told, shown(desk)], [(True, None, ("one", "two", "x"), 0), before])
        self.assertEqual(self.refused(UnknownName, desk.during, lambda same: (same.flip("one"), same.take("x"))).name, "x")
        self.assertEqual(shown(desk), before)
        self.assertIs(desk.during(lambda same: same.put("x", A)), None)
        self.assertEqual([shown(desk), desk.during(len), desk.during(str)], [before, 2, str(desk)])

    def test_undo_and_redo_in_blocks(self):
        desk = some_desk()
        before = shown(desk)
        with desk.trial():
            desk.undo(many=2)
            desk.put("new", SWAP)
            self.assertRaises(NothingToUndo, desk.redo)
        self.assertEqual(shown(desk), before)
        with desk.trial():
            desk.redo()
        self.assertEqual(shown(desk), before)

    def test_blocks_within_blocks(self):
        desk = some_desk()
        before = shown(desk)
        with desk.trial() as outer:
            outer.put("x", FAR)
            outer.undo()
            within_block = shown(desk)
            with outer.trial() as inner:
                inner.redo()
                inner.flip("x")
                self.assertEqual(inner.during(lambda same: (same.take("x"), same.names)), (None, ("one", "two")))
                self.assertEqual(inner["x"], ~FAR)
            self.assertEqual([shown(desk), desk.redo(), desk["x"]], [within_block, 3, FAR])
        self.assertEqual(shown(desk), before)

    def test_errors_within_blocks_within_blocks(self):
        desk = some_desk()
        before = shown(desk)
        with self.assertRaises(ZeroDivisionError):
            with desk.trial():
                desk.deepen(5)
                with desk.trial():
                    desk.deepen(4)
                    raise ZeroDivisionError
        self.assertEqual(shown(desk), before)

    def test_the_beginning_of_the_block(self):
        # The block begins where it is entered, not where it is made; and it can be entered again.
        desk = some_desk()
        block = desk.trial()
        desk.put("x", FAR)
        before = shown(desk)
        for name in ("y", "z"):
            with block as same:
                same.put(name, A)
                self.assertIn(name, desk)
            self.assertEqual(shown(desk), before)

    def test_blocks_do_not_change_twins(self):
        desk = some_desk()
        with desk.trial():
            desk.put("x", A)
            twin = desk.twin()
        self.assertEqual(["x" in desk, "x" in twin, twin.undo(), twin == desk], [False, True, 2, True])


class Twins(unittest.TestCase):
    def test_independent(self):
        desk = some_desk()
        twin = desk.twin()
        again = twin.twin()
        self.assertEqual([shown(twin), shown(again), twin == desk, twin is desk], [shown(desk), shown(desk), True, False])
        before = shown(desk)
        twin.put("x", FAR)
        twin.deepen(4)
        again.undo(many=2)
        self.assertEqual([shown(desk), twin.names, again.names], [before, ("one", "two", "x"), ()])
        desk.redo()
        self.assertEqual([twin["one"], again.redo(many=3), again == desk], [TWO, 3, True])
        desk.take("one")
        self.assertEqual(["one" in desk, "one" in twin, "one" in again], [False, True, True])

    def test_twins_of_new_desks(self):
        desk = Desk("abc", 1)
        self.assertEqual(shown(desk.twin()), shown(desk))
        desk.twin().put("x", Word.of("abc", "a"))
        self.assertEqual([len(desk), desk.undo(many=0)], [0, 0])


class Iterating(unittest.TestCase):
    def test_changes_while_it_is_gone_over(self):
        desk = some_desk()
        for name in desk:
            desk.take(name)
        self.assertEqual(desk.names, ())
        desk.undo()
        self.assertEqual(list(desk), ["two"])

    def test_what_is_returned_shares_nothing(self):
        desk = some_desk()
        names = list(desk)
        names.append("x")
        self.assertEqual([desk.names, desk.names.__class__], [("one", "two"), tuple])


if __name__ == "__main__":
    unittest.main()
