"""Words, told by their runs."""

from signedcounts.base.names import MAX_TEXT
from signedcounts.base.names import check_letters
from signedcounts.base.names import check_number
from signedcounts.base.names import is_integer
from signedcounts.base.names import is_text
from signedcounts.errors import InvalidNumber
from signedcounts.errors import InvalidOperation
from signedcounts.errors import InvalidText
from signedcounts.errors import InvalidWord
from signedcounts.errors import TooMany

MAX_RUNS = 200
MAX_POWER = 400


class Word:
    """A word: letters, some of them undone, told by its only row of runs."""

    def __init__(self, letters, runs):
        check_letters(letters)
        if not _are_pairs(letters, runs):
            raise InvalidOperation("runs are a tuple of pairs of a letter and an integer")
        self._letters = letters
        self._runs = within_limit(reduced(runs))

    @classmethod
    def of(cls, letters, text):
        """The word of a text."""
        if not is_text(letters, text):
            raise InvalidText(f"a text has at most {MAX_TEXT} signs, the letters and their capitals")
        return cls(letters, tuple([_pair_of(sign) for sign in text]))

    @property
    def letters(self):
        """The letters."""
        return self._letters

    @property
    def runs(self):
        """The tuple of the runs."""
        return self._runs

    @property
    def size(self):
        """The number of signs of the shortest text."""
        return sum([abs(run[1]) for run in self._runs])

    def __getitem__(self, index):
        if not is_integer(index) or not 0 <= index < len(self._runs):
            raise InvalidNumber(index)
        return self._runs[index]

    def __len__(self):
        return len(self._runs)

    def __iter__(self):
        return iter(self._runs)

    def __eq__(self, other):
        return isinstance(other, Word) and self._letters == other._letters and self._runs == other._runs

    def __str__(self):
        return f"word of {len(self._runs)} runs over {self._letters}"

    def __repr__(self):
        # The exponents can be longer than what Python writes, so they are not told.
        return f"<word of {len(self._runs)} runs over {self._letters}>"

    def __mul__(self, other):
        if not isinstance(other, Word) or other._letters != self._letters:
            raise InvalidOperation("the other operand is no word with the same letters")
        return word_of_runs(self._letters, self._runs + other._runs)

    def __invert__(self):
        return word_of_runs(self._letters, undone(self._runs))

    def power(self, number):
        """So many of the word one behind the other, or of it undone."""
        check_number(number, -MAX_POWER, MAX_POWER)
        runs = self._runs if number >= 0 else undone(self._runs)
        return word_of_runs(self._letters, runs * abs(number))

    def turned(self, other):
        """The word with the other one ahead and this one undone behind it."""
        check_word(other)
        check_same_letters(self, other)
        return word_of_runs(self._letters, other._runs + self._runs + undone(other._runs))

    def bracket(self, other):
        """The word, the other one, and both undone, one behind the other."""
        check_word(other)
        check_same_letters(self, other)
        return word_of_runs(self._letters, self._runs + other._runs + undone(self._runs) + undone(other._runs))

    def shortest(self):
        """The shortest text."""
        if self.size > MAX_TEXT:
            raise TooMany(MAX_TEXT)
        return "".join([_signs(letter, exponent) for letter, exponent in self._runs])

    def over(self, letters):
        """The word over more letters."""
        check_letters(letters)
        if not all([letter in letters for letter in self._letters]):
            raise InvalidOperation("the letters of the word are not among these")
        return word_of_runs(letters, self._runs)


def check_word(value):
    """Refuse a value that is no word."""
    if not isinstance(value, Word):
        raise InvalidWord("this is no word")


def check_same_letters(one, other):
    """Refuse two words with unlike letters."""
    if one.letters != other.letters:
        raise InvalidOperation("the two words have unlike letters")


def word_of_runs(letters, pairs):
    """The word of pairs that come of words: their integers can be longer than passed ones."""
    runs = within_limit(reduced(pairs))
    word = Word(letters, ())
    word._runs = runs
    return word


def reduced(pairs):
    """The runs that are left when neighbours with the same letter are put together."""
    found = []
    for letter, exponent in pairs:
        total = exponent
        if found and found[-1][0] == letter:
            total = found[-1][1] + exponent
            found.pop()
        if total != 0:
            found.append((letter, total))
    return tuple(found)


def within_limit(runs):
    """The runs, unless they are too many for a word."""
    if len(runs) > MAX_RUNS:
        raise TooMany(MAX_RUNS)
    return runs


def undone(runs):
    """The runs of the word undone."""
    return tuple([(letter, -exponent) for letter, exponent in runs[::-1]])


def _are_pairs(letters, value):
    return isinstance(value, tuple) and all([_is_pair(letters, part) for part in value])


def _is_pair(letters, value):
    if not isinstance(value, tuple) or len(value) != 2:
        return False
    letter, exponent = value
    # A part of the letters that is no single letter is within them, too.
    return isinstance(letter, str) and len(letter) == 1 and letter in letters and is_integer(exponent)


def _pair_of(sign):
    return (sign, 1) if sign.islower() else (sign.lower(), -1)


def _signs(letter, exponent):
    return letter * exponent if exponent > 0 else letter.upper() * -exponent
