"""Values that the tests pass: wrong ones of each kind, and the words and tables of the examples."""

import itertools
import random

from signedcounts import errors
from signedcounts.club.clubs import Club
from signedcounts.desk.desk import Desk
from signedcounts.lead.leads import Lead
from signedcounts.pattern.leading import leading_of
from signedcounts.table.brackets import by_exponents
from signedcounts.table.tables import Table
from signedcounts.text.shell import Shell
from signedcounts.word.words import Word

LONGEST = 10 ** 200 - 1
TOO_LONG = 10 ** 200

SWAP = Word.of("ab", "abAB")
TWO = Word.of("ab", "aab")
FAR = Word("ab", (("a", 10 ** 30), ("b", -2)))
EMPTY = Word("ab", ())
LONG = Word("ab", (("a", LONGEST), ("b", -LONGEST), ("a", 3 - LONGEST)))
ODD = Table("ab", 2, (1, 1, 0, 0, 0, 0))
# It follows the rule for all pairs with a pattern of one letter, and is not true.
SLY = Table.unit("ab", 4).with_entry("abab", 1).with_entry("abba", -1).with_entry("baab", -1).with_entry("baba", 1)
A, B = Word.of("ab", "a"), Word.of("ab", "b")
LEAN = Table.of(Word.of("ab", "aaabAB"), 2)
TWICE = Table.of(A.power(2), 2)
SLIDE = Lead("ab", {"a": Word.of("ab", "ab"), "b": B})
DOUBLE = Lead("ab", {"a": A.power(2), "b": B})
TEXTS = ["".join(signs) for size in range(5) for signs in itertools.product("abAB", repeat=size)]


def nested(kind, depth):
    """A list, tuple or dict that holds others, so many deep."""
    value = kind()
    for _ in range(depth - 1):
        value = {"a": value} if kind is dict else kind([value])
    return value


def error_objects():
    """An object of each error class."""
    message_only = [
        errors.CountError, errors.InvalidName, errors.InvalidLetters, errors.InvalidText,
        errors.InvalidPattern, errors.InvalidWord, errors.InvalidTable, errors.InvalidOperation,
    ]
    return [kind("told") for kind in message_only] + [
        errors.ParseError(1), errors.InvalidNumber(1), errors.UnknownName("a"),
        errors.TooMany(200), errors.NothingToUndo(1), errors.NotTrue("a", "b"),
    ]


def all_kinds():
    """New values of each kind that can be passed as a wrong argument."""
    numbers = [0, 1, -1, 2, 401, LONGEST, -LONGEST, TOO_LONG, -TOO_LONG, 10 ** 300 - 1, 1 - 10 ** 300]
    plain = [True, False, None]
    strings = [
        "", "a", "b", "ab", "ba", "aa", "abc", "abcd", "A", "aB", "AB", " ", "\n", "a\n", "a b", "-1", "1",
        "~", "left", "a" * 8, "a" * 9, "a" * 400, "a" * 401, "a" * 4000, "~" * 4000, "\n" * 4000,
    ]
    tuples = [(), ((),), (1,), ("a",), ("a", "b"), ("a", 1), (("a", 1),), (("a", True),), nested(tuple, 10)]
    lists = [[], [[]], [1], ["a", "b"], ["a", 1], [("a", 1)], [["a", 1]], nested(list, 10)]
    dicts = [{}, {"a": 1}, {1: "a"}, {"a": {}}, {("a", 1): [1]}, nested(dict, 10)]
    words = [Word("a", ()), Word("ab", ()), SWAP, TWO, FAR, Word.of("abc", "abC"), Word.of("z", "z")]
    tables = [
        Table.unit("a", 1), Table.unit("ab", 5), Table.of(SWAP, 3), ODD, Table("ab", 2, (LONGEST,) * 6).power(2),
        Table.of(Word.of("abc", "abC"), 2),
    ]
    others = [
        Club("ab", 2, (LEAN,)), Club("abc", 1, ()), SLIDE, Lead("a", {"a": Word.of("xyz", "xY")}), some_desk(),
        Shell("ab", 2),
    ]
    return numbers + plain + strings + tuples + lists + dicts + words + tables + others + error_objects()


def some_desk():
    """A desk with two words, of whose calls one is undone."""
    desk = Desk("ab", 2)
    desk.put("one", TWO)
    desk.put("two", A)
    desk.cross("one", "two")
    desk.undo()
    return desk


def all_but(is_right):
    """The values of all kinds without those that are right."""
    return [value for value in all_kinds() if not is_right(value)]


def is_word(value):
    return isinstance(value, Word)


def is_table(value):
    return isinstance(value, Table)


def is_lead(value):
    return isinstance(value, Lead)


def is_club(value):
    return isinstance(value, Club)


def within(least, most):
    """Whether a value is an integer from the least one to the greatest one."""
    return lambda value: value.__class__ is int and least <= value <= most


def shown(value):
    """What is seen of a value, so that values can be compared before and after calls."""
    if isinstance(value, Word):
        return ("word", value.letters, value.runs, value.size, len(value), list(value), str(value))
    if isinstance(value, Table):
        return ("table", value.letters, value.depth, value.entries, len(value), str(value))
    if isinstance(value, Club):
        return ("club", value.letters, value.depth, value.rows, value.parts, len(value), str(value))
    if isinstance(value, Lead):
        words = [shown(value[letter]) for letter in value.letters]
        return ("lead", value.letters, value.onto, value.determinant, len(value), str(value), words)
    if isinstance(value, Desk):
        words = [(name, shown(value[name])) for name in value]
        return ("desk", value.letters, value.depth, value.names, len(value), str(value), words, calls_of(value))
    if isinstance(value, Shell):
        return ("shell", shown(value.desk()))
    if isinstance(value, BaseException):
        return ("error", value.__class__, str(value), {key: shown(vars(value)[key]) for key in vars(value)})
    if isinstance(value, (list, tuple)):
        return (value.__class__, [shown(part) for part in value])
    if isinstance(value, dict):
        return (dict, [(key, shown(value[key])) for key in value])
    return (value.__class__, value)


def calls_of(desk):
    """How many calls can be undone, and how many done again."""
    twin = desk.twin()
    undone = twin.undo(many=0)
    while True:
        try:
            twin.redo()
        except errors.NothingToUndo:
            return undone, twin.undo(many=0) - undone


def reduced_text(text):
    """The shortest text of a text's word, found by taking out neighbours one by one."""
    left = ""
    for sign in text:
        left = left[:-1] if left and left[-1] == sign.swapcase() else left + sign
    return left


def slow_table(letters, text, depth):
    """The counts of the word of a text, sign by sign, as a dict by the patterns."""
    patterns = ["".join(signs) for size in range(depth + 1) for signs in itertools.product(letters, repeat=size)]
    counts = {pattern: int(pattern == "") for pattern in patterns}
    for sign in text:
        told = {}
        for pattern in patterns:
            told[pattern] = counts[pattern]
            if pattern.endswith(sign):
                told[pattern] += counts[pattern[:-1]]
            elif pattern.endswith(sign.lower()):
                # What is undone here is what would come of it with the letter behind it.
                told[pattern] -= told[pattern[:-1]]
        counts = told
    return counts


def some_words(letters, many, seed, most=8, exponents=(-3, -2, -1, 1, 2, 3)):
    """So many words with up to so many runs, the same ones for each seed."""
    source = random.Random(seed)
    told = []
    for _ in range(many):
        size = source.randrange(most + 1)
        told.append(Word(letters, tuple((source.choice(letters), source.choice(exponents)) for _ in range(size))))
    return told


def some_tables(letters, depth, many, seed, least=-4, most=4):
    """So many tables, most of which are not true, the same ones for each seed."""
    source = random.Random(seed)
    size = len(Table.unit(letters, depth))
    return [Table(letters, depth, tuple(source.randint(least, most) for _ in range(size))) for _ in range(many)]


def true_tables(letters, depth, many, seed, least=1, most=4):
    """So many true tables whose exponents at patterns of less than so many letters are 0."""
    source = random.Random(seed)
    leading = leading_of(letters, depth)
    return [
        by_exponents(letters, depth, tuple(source.randint(-most, most) * (len(p) >= least) for p in leading))
        for _ in range(many)
    ]


def alternating(count, letters="ab", exponent=1):
    """A tuple of so many runs, no two neighbours with the same letter."""
    return tuple((letters[index % 2], exponent) for index in range(count))
