"""Leads: words in the place of letters."""

from signedcounts.base.names import MAX_DEPTH
from signedcounts.base.names import check_letters
from signedcounts.base.names import check_pattern
from signedcounts.count.counts import beginnings
from signedcounts.errors import InvalidOperation
from signedcounts.errors import InvalidPattern
from signedcounts.errors import TooMany
from signedcounts.errors import UnknownName
from signedcounts.table.levels import lengthened
from signedcounts.table.levels import levels_of_runs
from signedcounts.table.levels import times
from signedcounts.table.tables import Table
from signedcounts.table.tables import check_table
from signedcounts.table.tables import levels_of
from signedcounts.table.tables import table_of_levels
from signedcounts.table.truth import check_true
from signedcounts.word.rounds import stripped
from signedcounts.word.words import MAX_RUNS
from signedcounts.word.words import Word
from signedcounts.word.words import check_word
from signedcounts.word.words import reduced
from signedcounts.word.words import undone
from signedcounts.word.words import within_limit
from signedcounts.word.words import word_of_runs


class Lead:
    """A word for each letter."""

    def __init__(self, letters, words):
        check_letters(letters)
        _check_words(letters, words)
        self._letters = letters
        self._words = tuple([words[letter] for letter in letters])
        self._onto = self._words[0].letters
        self._determinant = _determinant_of(self._onto, self._words)

    @property
    def letters(self):
        """The letters that are led."""
        return self._letters

    @property
    def onto(self):
        """The letters of the words."""
        return self._onto

    @property
    def determinant(self):
        """The determinant of the counts of single letters, or None if the numbers of letters are unlike."""
        return self._determinant

    def __call__(self, value):
        if not isinstance(value, Word) and not isinstance(value, Table):
            raise InvalidOperation("only words and tables are led")
        if value.letters != self._letters:
            raise InvalidOperation("the value has other letters than the lead")
        if isinstance(value, Word):
            return led_word(self, value)
        words = [word.runs for word in self._words]
        return table_of_levels(self._onto, _led_levels(self._onto, words, levels_of(value)))

    def __getitem__(self, letter):
        if not isinstance(letter, str) or len(letter) != 1 or letter not in self._letters:
            raise UnknownName(letter)
        return self._words[self._letters.find(letter)]

    def __iter__(self):
        raise TypeError("a lead can not be iterated over")

    def __len__(self):
        return len(self._letters)

    def __eq__(self, other):
        return isinstance(other, Lead) and self._letters == other._letters and self._words == other._words

    def __str__(self):
        return f"lead of {self._letters} to {self._onto}"

    def __repr__(self):
        return f"<lead of {self._letters} to {self._onto}>"

    def __mul__(self, other):
        if not isinstance(other, Lead) or other._onto != self._letters:
            raise InvalidOperation("the other operand is no lead to the letters of the first one")
        return Lead(other._letters, {letter: led_word(self, other[letter]) for letter in other._letters})


def weights(lead, pattern):
    """The weights of a pattern that are not 0, by their patterns, in order."""
    check_lead(lead)
    check_pattern(lead.onto, pattern)
    if len(pattern) > MAX_DEPTH:
        raise InvalidPattern("only patterns of at most five letters have weights")
    found = _weights(lead, pattern)
    ordered = sorted([(len(told), told) for told in found if found[told] != 0])
    return {told: found[told] for size, told in ordered}


def origin(lead, table):
    """The only true table that is led to a true table, or None."""
    check_lead(lead)
    check_table(table)
    check_true(table)
    if table.letters != lead.onto:
        raise InvalidOperation("the table has other letters than the words")
    if lead.determinant is None or lead.determinant == 0:
        raise InvalidOperation("the lead leads unlike true tables to the same one, or has too few letters")
    words = [lead[letter].runs for letter in lead.letters]
    wanted = levels_of(table)
    found = [[1]]
    for size in range(1, table.depth + 1):
        # What is missing of the table, at the shortest patterns of which any is, comes of
        # what the letters are, one by one, and of nothing else.
        longer = lengthened(lead.letters, size, found)
        led = _led_levels(lead.onto, words, longer)
        missing = _traced_back(lead, [x - y for x, y in zip(wanted[size], led[size])], size)
        if missing is None:
            return None
        found = longer[:size] + [[x + y for x, y in zip(longer[size], missing)]]
    return table_of_levels(lead.letters, found)


def check_lead(value):
    """Refuse a value that is no lead."""
    if not isinstance(value, Lead):
        raise InvalidOperation("this is no lead")


def led_word(lead, word):
    """The led word of a word that has the letters of the lead."""
    found = ()
    for letter, exponent in word.runs:
        found = found + _powered_runs(lead[letter].runs, exponent)
    return word_of_runs(lead.onto, found)


def _check_words(letters, words):
    if not isinstance(words, dict) or len(words) != len(letters) or not all([letter in words for letter in letters]):
        raise InvalidOperation("words are a dict whose keys are just the letters")
    for letter in letters:
        check_word(words[letter])
    for letter in letters:
        if words[letter].letters != words[letters[0]].letters:
            raise InvalidOperation("the words have unlike letters")


def _powered_runs(runs, number):
    """The runs of a power, whatever its size."""
    if len(runs) == 0:
        return ()
    one = runs if number >= 0 else undone(runs)
    ahead, middle = stripped(one)
    if len(middle) == 1:
        letter, exponent = middle[0]
        return ahead + ((letter, exponent * abs(number)),) + undone(ahead)
    # If nothing is ahead, these are all runs; otherwise there are still more.
    if len(middle) * abs(number) > MAX_RUNS:
        raise TooMany(MAX_RUNS)
    return within_limit(reduced(ahead + middle * abs(number) + undone(ahead)))


def _determinant_of(onto, words):
    if len(onto) != len(words):
        return None
    return _determinant(_single_counts(onto, words))


def _single_counts(onto, words):
    """The counts of single letters: rows by the words, columns by the letters."""
    return [[sum([run[1] for run in word.runs if run[0] == letter]) for letter in onto] for word in words]


def _determinant(rows):
    if len(rows) == 0:
        return 1
    return sum([_sign(at) * rows[0][at] * _determinant(_without(rows, 0, at)) for at in range(len(rows))])


def _without(rows, row, column):
    return [one[:column] + one[column + 1:] for one in rows[:row] + rows[row + 1:]]


def _sign(number):
    return 1 if number % 2 == 0 else -1


def _traced_back(lead, level, size):
    """The numbers at the patterns of so many letters from which the level comes; None if they are no integers."""
    many = len(lead.letters)
    counts = _single_counts(lead.onto, [lead[letter] for letter in lead.letters])
    # The determinant, divided by which this would be the inverse of the counts, is left to the end.
    back = [[_sign(x + y) * _determinant(_without(counts, x, y)) for x in range(many)] for y in range(many)]
    rest = level
    below = 1
    for _ in range(size):
        # The first letter is traced back, and put behind the others.
        width = len(rest) // many
        parts = [rest[at * width:at * width + width] for at in range(many)]
        rest = [_sum_of(back, parts, x, at) for at in range(width) for x in range(many)]
        below = below * lead.determinant
    if any([number % below != 0 for number in rest]):
        return None
    return [number // below for number in rest]


def _sum_of(back, parts, column, index):
    return sum([row[column] * part[index] for row, part in zip(back, parts)])


def _led_levels(onto, words, levels):
    """The levels of the led table."""
    rests = [[[0]] + levels_of_runs(onto, len(levels) - 1, runs)[1:] for runs in words]
    return _led_from(levels, rests, 0, 0)


def _led_from(levels, rests, size, index):
    """What comes of all patterns that begin with one, without what comes of this beginning.

    The beginning is that with so many letters and with this index among these.
    """
    left = len(levels) - 1 - size
    found = [[levels[size][index]]] + [[0] * len(level) for level in rests[0][1:left + 1]]
    for at in range(len(rests)):
        if left > 0:
            inner = _led_from(levels, rests, size + 1, index * len(rests) + at)
            more = times(rests[at][:left + 1], inner + [[0] * len(rests[at][left])])
            found = [[x + y for x, y in zip(one, other)] for one, other in zip(found, more)]
    return found


def _weights(lead, pattern):
    """The weights of the pattern."""
    found = {"": {"": 1}}
    for start in range(len(pattern) - 1, -1, -1):
        end = pattern[start:]
        told = {}
        for letter in lead.letters:
            counts = beginnings(lead[letter], end)
            for size in range(1, len(end) + 1):
                for rest, weight in found[end[size:]].items():
                    told[letter + rest] = told.get(letter + rest, 0) + counts[size] * weight
        found[end] = told
    return found[pattern]
