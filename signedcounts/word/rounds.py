"""Words as rounds: what is left of their runs when the ends that undo one another are taken off."""

from signedcounts.word.words import reduced
from signedcounts.word.words import undone


def stripped(runs):
    """The runs as those of one word, a second one behind it, and the first one undone: both, in order.

    The second word has at most one run, or its first and last letters are unlike. So it has, in
    each power, its runs over and over.
    """
    ahead = 0
    while len(runs) - 2 * ahead > 1 and _undo(runs[ahead], runs[len(runs) - 1 - ahead]):
        ahead = ahead + 1
    middle = runs[ahead:len(runs) - ahead]
    if len(middle) > 1 and middle[0][0] == middle[-1][0]:
        # A part of the first run stands, undone, at the end, or the last one stands there instead.
        ends = (middle[-1],)
        return runs[:ahead] + undone(ends), reduced(ends + middle[:-1])
    return runs[:ahead], middle


def period(runs):
    """The least number of runs that are, over and over, these ones; at least one run is there."""
    size = 1
    while len(runs) % size != 0 or runs[size:] != runs[:-size]:
        size = size + 1
    return size


def _undo(one, other):
    return one[0] == other[0] and one[1] == -other[1]
