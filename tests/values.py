"""Values that the tests pass: wrong ones of each kind, and the words of the examples."""

from signedcounts import errors
from signedcounts.word.words import Word

LONGEST = 10 ** 200 - 1
TOO_LONG = 10 ** 200

SWAP = Word.of("ab", "abAB")
TWO = Word.of("ab", "aab")
FAR = Word("ab", (("a", 10 ** 30), ("b", -2)))


def nested(kind, depth):
    """A list, tuple or dict that holds others, so many deep."""
    value = kind()
    for _ in range(depth - 1):
        value = {"a": value} if kind is dict else kind([value])
    return value


def error_objects():
    """An object of each error class."""
    message_only = [
        errors.CountError, errors.InvalidName, errors.InvalidLetters, errors.InvalidText,
        errors.InvalidPattern, errors.InvalidWord, errors.InvalidTable, errors.InvalidOperation,
    ]
    return [kind("told") for kind in message_only] + [
        errors.ParseError(1), errors.InvalidNumber(1), errors.UnknownName("a"),
        errors.TooMany(200), errors.NothingToUndo(1), errors.NotTrue("a", "b"),
    ]


def all_kinds():
    """New values of each kind that can be passed as a wrong argument."""
    numbers = [0, 1, -1, 2, 401, LONGEST, -LONGEST, TOO_LONG, -TOO_LONG, 10 ** 300 - 1, 1 - 10 ** 300]
    plain = [True, False, None]
    strings = [
        "", "a", "b", "ab", "ba", "aa", "abc", "abcd", "A", "aB", "AB", " ", "\n", "a\n", "a b", "-1", "1",
        "~", "left", "a" * 8, "a" * 9, "a" * 400, "a" * 401, "a" * 4000, "~" * 4000, "\n" * 4000,
    ]
    tuples = [(), ((),), (1,), ("a",), ("a", "b"), ("a", 1), (("a", 1),), (("a", True),), nested(tuple, 10)]
    lists = [[], [[]], [1], ["a", "b"], ["a", 1], [("a", 1)], [["a", 1]], nested(list, 10)]
    dicts = [{}, {"a": 1}, {1: "a"}, {"a": {}}, {("a", 1): [1]}, nested(dict, 10)]
    words = [Word("a", ()), Word("ab", ()), SWAP, TWO, FAR, Word.of("abc", "abC"), Word.of("z", "z")]
    return numbers + plain + strings + tuples + lists + dicts + words + error_objects()


def all_but(is_right):
    """The values of all kinds without those that are right."""
    return [value for value in all_kinds() if not is_right(value)]


def is_word(value):
    return isinstance(value, Word)


def shown(value):
    """What is seen of a value, so that values can be compared before and after calls."""
    if isinstance(value, Word):
        return ("word", value.letters, value.runs, value.size, len(value), list(value), str(value))
    if isinstance(value, BaseException):
        return ("error", value.__class__, str(value), {key: shown(vars(value)[key]) for key in vars(value)})
    if isinstance(value, (list, tuple)):
        return (value.__class__, [shown(part) for part in value])
    if isinstance(value, dict):
        return (dict, [(key, shown(value[key])) for key in value])
    return (value.__class__, value)


def reduced_text(text):
    """The shortest text of a text's word, found by taking out neighbours one by one."""
    left = ""
    for sign in text:
        left = left[:-1] if left and left[-1] == sign.swapcase() else left + sign
    return left


def alternating(count, letters="ab", exponent=1):
    """A tuple of so many runs, no two neighbours with the same letter."""
    return tuple((letters[index % 2], exponent) for index in range(count))
