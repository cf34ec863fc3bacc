"""Points 1.1 and 1.2: the errors, their bases, what they keep, their texts."""

import inspect
import unittest

from signedcounts import errors
from signedcounts.errors import (
    CountError, InvalidLetters, InvalidName, InvalidNumber, InvalidOperation, InvalidPattern, InvalidTable,
    InvalidText, InvalidWord, NothingToUndo, NotTrue, ParseError, TooMany, UnknownName,
)
from values import SWAP, all_kinds, shown

MESSAGE_ONLY = (
    InvalidName, InvalidLetters, InvalidText, InvalidPattern, InvalidWord, InvalidTable, InvalidOperation,
)


class Bases(unittest.TestCase):
    def test_count_error(self):
        self.assertEqual(CountError.__bases__, (ValueError,))

    def test_direct_bases_are_count_error_only(self):
        for kind in MESSAGE_ONLY + (ParseError,):
            self.assertEqual(kind.__bases__, (CountError,), kind)

    def test_bases_of_the_others(self):
        self.assertEqual(InvalidNumber.__bases__, (IndexError,))
        self.assertEqual(UnknownName.__bases__, (KeyError,))
        self.assertEqual(TooMany.__bases__, (OverflowError,))
        self.assertEqual(NothingToUndo.__bases__, (LookupError,))
        self.assertEqual(NotTrue.__bases__, (ArithmeticError,))

    def test_others_are_no_count_errors(self):
        for kind in (InvalidNumber, UnknownName, TooMany, NothingToUndo, NotTrue):
            self.assertFalse(issubclass(kind, ValueError), kind)

    def test_all_stand_in_this_file(self):
        kinds = [kind for _, kind in inspect.getmembers(errors, inspect.isclass)]
        self.assertEqual(len(kinds), 14)
        self.assertEqual({kind.__module__ for kind in kinds}, {"signedcounts.errors"})


class Messages(unittest.TestCase):
    def test_take_a_message(self):
        for kind in MESSAGE_ONLY + (CountError,):
            self.assertEqual(str(kind("what is wrong")), "what is wrong", kind)

    def test_each_keeps_its_own_message(self):
        for kind in MESSAGE_ONLY + (CountError,):
            first, second = kind("first"), kind("second")
            self.assertEqual([str(first), str(second)], ["first", "second"], kind)


class Kept(unittest.TestCase):
    def test_index(self):
        first, second = ParseError(3), ParseError(0)
        self.assertEqual([first.index, second.index], [3, 0])
        self.assertIsInstance(str(first), str)

    def test_value(self):
        first, second = InvalidNumber(-7), InvalidNumber("x")
        self.assertEqual([first.value, second.value], [-7, "x"])
        self.assertEqual([str(first), str(second)], ["-7", "'x'"])

    def test_name(self):
        first, second = UnknownName("left"), UnknownName(3)
        self.assertEqual([first.name, second.name], ["left", 3])
        self.assertEqual([str(first), str(second)], ["'left'", "3"])

    def test_limit(self):
        first, second = TooMany(200), TooMany(4000)
        self.assertEqual([first.limit, second.limit], [200, 4000])
        self.assertIsInstance(str(first), str)

    def test_many(self):
        first, second = NothingToUndo(1), NothingToUndo(9)
        self.assertEqual([first.many, second.many], [1, 9])
        self.assertIsInstance(str(first), str)

    def test_one_and_other(self):
        first, second = NotTrue("a", "b"), NotTrue("ab", "")
        self.assertEqual([first.one, first.other, second.one, second.other], ["a", "b", "ab", ""])
        self.assertIsInstance(str(first), str)

    def test_by_keyword(self):
        self.assertEqual(ParseError(index=2).index, 2)
        self.assertEqual([InvalidNumber(value=2).value, str(InvalidNumber(value=2))], [2, "2"])
        self.assertEqual([UnknownName(name="a").name, str(UnknownName(name="a"))], ["a", "'a'"])
        self.assertEqual(TooMany(limit=2).limit, 2)
        self.assertEqual(NothingToUndo(many=2).many, 2)
        self.assertEqual(NotTrue(one="a", other="b").other, "b")

    def test_values_of_all_kinds_are_kept_and_told(self):
        for value in all_kinds():
            before = shown(value)
            for error, kept in ((InvalidNumber(value), "value"), (UnknownName(value), "name")):
                self.assertEqual(shown(getattr(error, kept)), before)
                self.assertEqual(str(error), repr(value))
            self.assertEqual(shown(value), before)

    def test_true_is_kept_as_true(self):
        self.assertIs(InvalidNumber(True).value, True)
        self.assertEqual(str(InvalidNumber(True)), "True")

    def test_no_state_is_shared(self):
        value = [1, {"a": [2]}, ([3],)]
        number, name = InvalidNumber(value), UnknownName(value)
        value[1]["a"].append(4)
        value[2][0].append(5)
        value.append(6)
        for kept in (number.value, name.name, number.args[0], name.args[0]):
            self.assertEqual(kept, [1, {"a": [2]}, ([3],)])
        self.assertEqual([str(number), str(name)], ["[1, {'a': [2]}, ([3],)]"] * 2)


class Raised(unittest.TestCase):
    def test_caught_by_the_bases(self):
        for error, base in (
            (InvalidWord("x"), ValueError), (ParseError(1), CountError), (InvalidNumber(1), IndexError),
            (UnknownName("a"), KeyError), (TooMany(1), OverflowError), (NothingToUndo(1), LookupError),
            (NotTrue("a", "b"), ArithmeticError),
        ):
            with self.assertRaises(base) as caught:
                raise error
            self.assertIs(caught.exception, error)

    def test_not_iterable(self):
        for error in (InvalidWord("x"), ParseError(1), InvalidNumber(SWAP), NotTrue("a", "b"), TooMany(1)):
            with self.assertRaises(TypeError):
                iter(error)

    def test_equals_no_other_value(self):
        for error in (InvalidWord("x"), ParseError(1), InvalidNumber(1), NotTrue("a", "b")):
            for value in all_kinds():
                self.assertIs(error == value, False)
                self.assertIs(error != value, True)
