"""Integers, names, letters, texts and patterns."""

from signedcounts.errors import InvalidLetters
from signedcounts.errors import InvalidNumber
from signedcounts.errors import InvalidPattern

MAX_NAME = 8
MAX_DIGITS = 200
MAX_TEXT = 4000
MAX_PATTERN = 400
MAX_DEPTH = 5
# The greatest integer of MAX_DIGITS digits. Comparing with it takes no text of
# the integer, which Python refuses to write if the integer is very long.
MAX_INTEGER = 10 ** 50 * 10 ** 50 * 10 ** 50 * 10 ** 50 - 1

_MAX_LETTERS = 3
_ALPHABET = "abcdefghijklmnopqrstuvwxyz"


def is_integer(value):
    """Whether the value is an integer of at most MAX_DIGITS digits, and no boolean."""
    if not isinstance(value, int) or isinstance(value, bool):
        return False
    return -MAX_INTEGER <= value <= MAX_INTEGER


def is_name(value):
    """Whether the value is a string of one to MAX_NAME letters a to z."""
    return _is_string(value, 1, MAX_NAME) and _has_only(value, _ALPHABET)


def is_letters(value):
    """Whether the value is a string of one to three different letters a to z, ascending."""
    if not _is_string(value, 1, _MAX_LETTERS) or not _has_only(value, _ALPHABET):
        return False
    return all([one < other for one, other in zip(value, value[1:])])


def is_text(letters, value):
    """Whether the value is a text of these letters and their capitals."""
    check_letters(letters)
    return _is_string(value, 0, MAX_TEXT) and _has_only(value, letters + letters.upper())


def is_pattern(letters, value):
    """Whether the value is a pattern of these letters."""
    check_letters(letters)
    return _is_string(value, 0, MAX_PATTERN) and _has_only(value, letters)


def are_integers(value, many):
    """Whether the value is a tuple of just so many integers."""
    return isinstance(value, tuple) and len(value) == many and all([is_integer(part) for part in value])


def check_letters(value):
    """Refuse a value that is no letters."""
    if not is_letters(value):
        raise InvalidLetters("letters are one to three different letters a to z, ascending")


def check_pattern(letters, value):
    """Refuse letters that are none, and then a value that is no pattern of them."""
    if not is_pattern(letters, value):
        raise InvalidPattern(f"a pattern has at most {MAX_PATTERN} signs, the letters alone")


def check_integer(value):
    """Refuse a value that is no integer."""
    if not is_integer(value):
        raise InvalidNumber(value)


def check_number(value, least, most):
    """Refuse a value that is no integer from the least one to the greatest one."""
    if not is_integer(value) or not least <= value <= most:
        raise InvalidNumber(value)


def check_depth(value):
    """Refuse a value that is no depth."""
    check_number(value, 1, MAX_DEPTH)


def _is_string(value, least, most):
    return isinstance(value, str) and least <= len(value) <= most


def _has_only(text, signs):
    return all([sign in signs for sign in text])
