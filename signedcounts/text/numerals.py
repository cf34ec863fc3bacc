"""Integers and strings of letters, as they stand in texts and lines."""

from signedcounts.base.names import MAX_DIGITS

_DIGITS = "0123456789"
_SMALL = "abcdefghijklmnopqrstuvwxyz"
_LETTERS = "abcdefghijklmnopqrstuvwxyzABCDEFGHIJKLMNOPQRSTUVWXYZ"


def is_numeral(text):
    """Whether the text is an integer in decimal, without needless zeros, with - ahead if it is less than 0."""
    digits = text[1:] if text.startswith("-") else text
    if not 1 <= len(digits) <= MAX_DIGITS or not all([sign in _DIGITS for sign in digits]):
        return False
    return digits[0] != "0" or text == "0"


def has_small_letters(text):
    """Whether the text has the letters a to z alone."""
    return all([sign in _SMALL for sign in text])


def has_letters(text):
    """Whether the text has the letters a to z and A to Z alone."""
    return all([sign in _LETTERS for sign in text])
