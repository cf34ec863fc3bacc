"""Counts of patterns in words."""

from math import comb

from signedcounts.base.names import MAX_PATTERN
from signedcounts.base.names import check_integer
from signedcounts.base.names import check_number
from signedcounts.base.names import check_pattern
from signedcounts.base.names import is_text
from signedcounts.errors import InvalidText
from signedcounts.word.words import check_word
from signedcounts.word.words import reduced


def count(word, pattern):
    """The count of a pattern in a word."""
    check_word(word)
    check_pattern(word.letters, pattern)
    runs = runs_that_count(word, pattern)
    blocks = _blocks(pattern)
    if _are_short(blocks, runs):
        return _by_runs(runs, pattern)[-1]
    return _last_by_blocks(runs, blocks)


def beginnings(word, pattern):
    """The counts of all beginnings of a pattern in a word, from the empty one on."""
    check_word(word)
    check_pattern(word.letters, pattern)
    runs = runs_that_count(word, pattern)
    blocks = _blocks(pattern)
    if _are_short(blocks, runs):
        return tuple(_by_runs(runs, pattern))
    return tuple(_all_by_blocks(runs, blocks))


def binomial(number, size):
    """number (number - 1) .. (number - size + 1) divided by the product of 1 to size."""
    check_integer(number)
    check_number(size, 0, MAX_PATTERN)
    return _chosen(number, size)


def scattered(letters, text, pattern):
    """Tells all tuples of places of the text at which the pattern stands, in order."""
    if not is_text(letters, text) or not all([sign in letters for sign in text]):
        raise InvalidText("a text without capitals is wanted")
    check_pattern(letters, pattern)
    latest = _latest_places(text, pattern)
    if len(latest) < len(pattern):
        return
    places = []
    while True:
        # No place is later than its latest one, so each beginning of a tuple can be gone on with.
        while len(places) < len(pattern):
            after = places[-1] + 1 if places else 0
            places.append(text.find(pattern[len(places)], after))
        yield tuple(places)
        after = -1
        while places and after < 0:
            last = places.pop()
            after = text.find(pattern[len(places)], last + 1, latest[len(places)] + 1)
        if after < 0:
            return
        places.append(after)


def binomials(number, most):
    """The binomials of the number, from size 0 to the greatest size."""
    row = [1]
    for size in range(1, most + 1):
        row.append(row[-1] * (number - size + 1) // size)
    return row


def runs_that_count(word, pattern):
    """The runs of the word without the letters that the pattern has not."""
    return reduced([run for run in word.runs if run[0] in pattern])


def reaches(pattern):
    """For each beginning of the pattern, by its size, with how many equal letters it ends."""
    found = [0]
    for index in range(len(pattern)):
        goes_on = index > 0 and pattern[index] == pattern[index - 1]
        found.append(found[-1] + 1 if goes_on else 1)
    return found


def _chosen(number, size):
    if number >= 0:
        return comb(number, size)
    told = comb(size - number - 1, size)
    return told if size % 2 == 0 else -told


def _latest_places(text, pattern):
    """The last tuple of places; a shorter one if there is none."""
    found = []
    after = len(text)
    for letter in pattern[::-1]:
        after = text.rfind(letter, 0, after)
        if after < 0:
            break
        found.append(after)
    return found[::-1]


def _blocks(pattern):
    """The letters of the pattern, in order, equal neighbours together, each with their number."""
    return reduced([(letter, 1) for letter in pattern])


def _are_short(blocks, runs):
    """Whether it takes less to go on run by run than block by block."""
    # Run by run, a block takes about the square of its size for each run; block by block,
    # it takes about the square of the number of the runs.
    longest = max([size for letter, size in blocks], default=0)
    return longest * longest <= len(runs)


def _by_runs(runs, pattern):
    """The counts of all beginnings, gone on with run by run."""
    reach = reaches(pattern)
    longest = max(reach)
    counts = [1] + [0] * len(pattern)
    for letter, exponent in runs:
        row = binomials(exponent, longest)
        for size in range(len(pattern), 0, -1):
            if pattern[size - 1] == letter:
                counts[size] = sum([row[k] * counts[size - k] for k in range(reach[size] + 1)])
    return counts


# Block by block: the numbers `ahead` are the counts of all that is ahead of a block, in the first
# 0, 1, 2 .. runs. Each step by which they rise or fall can be gone on with by letters of the block
# behind it. As many are there as the runs of this letter behind the step have exponents together.


def _last_by_blocks(runs, blocks):
    ahead = [1] * (len(runs) + 1)
    for letter, size in blocks[:-1]:
        ahead = _behind_block(runs, letter, size, ahead)
    letter, size = blocks[-1]
    totals = _exponents_ahead(runs, letter)
    return sum([step * _chosen(totals[-1] - totals[index], size) for index, step in _steps(ahead)])


def _all_by_blocks(runs, blocks):
    ahead = [1] * (len(runs) + 1)
    found = [1]
    for index in range(len(blocks)):
        if index > 0:
            letter, size = blocks[index - 1]
            ahead = _behind_block(runs, letter, size, ahead)
        letter, size = blocks[index]
        found.extend(_through_block(runs, letter, size, ahead))
    return found


def _behind_block(runs, letter, size, ahead):
    """The counts of all up to the end of the block, in the first 0, 1, 2 .. runs."""
    totals = _exponents_ahead(runs, letter)
    steps = _steps(ahead)
    found = [0]
    for many in range(1, len(runs) + 1):
        last = found[-1]
        if runs[many - 1][0] == letter:
            ways = [step * _chosen(totals[many] - totals[index], size) for index, step in steps if index < many]
            last = sum(ways)
        found.append(last)
    return found


def _through_block(runs, letter, size, ahead):
    """The counts, in all runs, of all up to the first, second .. letter of the block."""
    totals = _exponents_ahead(runs, letter)
    found = [0] * size
    for index, step in _steps(ahead):
        row = binomials(totals[-1] - totals[index], size)
        found = [number + step * ways for number, ways in zip(found, row[1:])]
    return found


def _exponents_ahead(runs, letter):
    """The sums of the exponents of the letter in the first 0, 1, 2 .. runs."""
    totals = [0]
    for other, exponent in runs:
        totals.append(totals[-1] + exponent if other == letter else totals[-1])
    return totals


def _steps(numbers):
    """Where, and by how much, the numbers are other than the one ahead, or at first than 0."""
    pairs = [(0, numbers[0])] + [(k, numbers[k] - numbers[k - 1]) for k in range(1, len(numbers))]
    return [(index, step) for index, step in pairs if step != 0]
