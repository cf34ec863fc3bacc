"""Words at work, under names, with what takes calls back."""

from signedcounts.base.names import check_depth
from signedcounts.base.names import check_letters
from signedcounts.base.names import is_integer
from signedcounts.base.names import is_name
from signedcounts.club.clubs import Club
from signedcounts.count.counts import count
from signedcounts.errors import InvalidName
from signedcounts.errors import InvalidNumber
from signedcounts.errors import InvalidOperation
from signedcounts.errors import NothingToUndo
from signedcounts.errors import UnknownName
from signedcounts.lead.leads import check_lead
from signedcounts.lead.leads import led_word
from signedcounts.table.tables import Table
from signedcounts.turn.commuting import do_commute
from signedcounts.word.words import check_word

MAX_KEPT = 8


class Trial:
    """A block at whose end a desk is as it was at its beginning."""

    def __init__(self, desk):
        self._desk = desk
        self._states = ()
        self._at = 0
        self._depth = 0
        self._words = None
        self._names = ()

    def __enter__(self):
        desk = self._desk
        self._states = desk._states
        self._at = desk._at
        self._depth = desk._depth
        self._words = desk._words
        self._names = desk._names
        return desk

    def __exit__(self, kind, value, trace):
        desk = self._desk
        desk._states = self._states
        desk._at = self._at
        desk._depth = self._depth
        desk._words = self._words
        desk._names = self._names


class Desk:
    """Words of the same letters under names, and a depth.

    A state of the desk is a depth and a dict of words, which never changes. All states that the
    desk can come back to are kept in order: undoing goes to those ahead of the present one, doing
    again to those behind it.
    """

    def __init__(self, letters, depth):
        check_letters(letters)
        check_depth(depth)
        self._letters = letters
        self._states = ((depth, {}),)
        self._at = 0
        self._depth = depth
        self._words = {}
        self._names = ()

    @property
    def letters(self):
        """The letters."""
        return self._letters

    @property
    def depth(self):
        """The depth of the tables."""
        return self._depth

    @property
    def names(self):
        """The names of the words, ascending."""
        return self._names

    def __getitem__(self, name):
        if not isinstance(name, str) or name not in self._words:
            raise UnknownName(name)
        return self._words[name]

    def __contains__(self, value):
        return isinstance(value, str) and value in self._words

    def __len__(self):
        return len(self._words)

    def __iter__(self):
        return iter(self._names)

    def __eq__(self, other):
        if not isinstance(other, Desk) or self._letters != other._letters:
            return False
        return self._depth == other._depth and self._words == other._words

    def __str__(self):
        return f"desk of {len(self._words)} words, depth {self._depth} over {self._letters}"

    def __repr__(self):
        return f"<desk of {len(self._words)} words, depth {self._depth} over {self._letters}>"

    def put(self, name, word):
        """Keeps a word under a name."""
        if not is_name(name):
            raise InvalidName("a name is a string of one to eight letters a to z")
        check_word(word)
        if word.letters != self._letters:
            raise InvalidOperation("the word has other letters than the desk")
        if name not in self._words and len(self._words) >= MAX_KEPT:
            raise InvalidOperation("the desk has no place for one more word")
        self._keep(name, word)

    def take(self, name):
        """Takes a word away."""
        if name not in self:
            raise UnknownName(name)
        words = {other: self._words[other] for other in self._words if other != name}
        self._go_on(self._depth, words)

    def join(self, name, other):
        """Puts the second word behind the first one, in the place of this one."""
        self._keep(name, self[name] * self[other])

    def turn(self, name, other):
        """Puts the first word, turned with the second one, in the place of the first one."""
        self._keep(name, self[name].turned(self[other]))

    def cross(self, name, other):
        """Puts the bracket of the first word with the second one in the place of the first one."""
        self._keep(name, self[name].bracket(self[other]))

    def flip(self, name):
        """Undoes a word."""
        self._keep(name, ~self[name])

    def lead_all(self, lead):
        """Puts the led word in the place of each."""
        check_lead(lead)
        if lead.letters != self._letters or lead.onto != self._letters:
            raise InvalidOperation("the lead does not lead the letters of the desk to these")
        self._go_on(self._depth, {name: led_word(lead, self._words[name]) for name in self._words})

    def deepen(self, depth):
        """Takes another depth."""
        check_depth(depth)
        self._go_on(depth, self._words)

    def table(self, name):
        """The table of a word."""
        return Table.of(self[name], self._depth)

    def counted(self, name, pattern):
        """The count of a pattern in a word."""
        return count(self[name], pattern)

    def club(self):
        """The club of all tables."""
        return Club(self._letters, self._depth, tuple([self.table(name) for name in self._names]))

    def alike(self):
        """The pairs of names of words with equal tables."""
        return tuple([(name, other) for name, one, other, two in self._pairs() if one == two])

    def crossing(self):
        """The pairs of names of words whose tables do not commute."""
        return tuple([(name, other) for name, one, other, two in self._pairs() if not do_commute(one, two)])

    def undo(self, *, many=1):
        """Takes so many calls back, and tells how many can be undone then."""
        _check_many(many, self._at)
        self._show(self._at - many)
        return self._at

    def redo(self, *, many=1):
        """Does so many calls again, and tells how many can be undone then."""
        _check_many(many, len(self._states) - 1 - self._at)
        self._show(self._at + many)
        return self._at

    def trial(self):
        """A block at whose end the desk is as it was at its beginning."""
        return Trial(self)

    def during(self, call):
        """What the call returns for the desk, which is then as it was."""
        with self.trial() as same:
            return call(same)

    def twin(self):
        """An independent copy, also of what can be undone and done again."""
        found = Desk(self._letters, self._depth)
        found._states = self._states
        found._show(self._at)
        return found

    def _keep(self, name, word):
        words = {other: self._words[other] for other in self._words}
        words[name] = word
        self._go_on(self._depth, words)

    def _go_on(self, depth, words):
        """Comes to a new state; what was undone can't be done again."""
        self._states = self._states[:self._at + 1] + ((depth, words),)
        self._show(self._at + 1)

    def _show(self, index):
        """Comes to the state with the index."""
        depth, words = self._states[index]
        self._at = index
        self._depth = depth
        self._words = words
        self._names = tuple(sorted(list(words)))

    def _pairs(self):
        """The names and tables of all pairs of words, in order."""
        told = [(name, self.table(name)) for name in self._names]
        return [one + other for one in told for other in told if one[0] < other[0]]


def _check_many(many, most):
    if not is_integer(many) or many < 0:
        raise InvalidNumber(many)
    if many > most:
        raise NothingToUndo(many)
