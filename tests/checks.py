"""What several test files do with calls: refusals, wrong arguments one and two at once, examples."""

import unittest

from signedcounts.errors import InvalidNumber, TooMany
from values import all_but, shown


class Refusals(unittest.TestCase):
    def refused(self, kind, call, *values):
        """The error, which is of just this class, while the arguments stay as they are."""
        before = [shown(value) for value in values]
        with self.assertRaises(kind) as caught:
            call(*values)
        self.assertIs(caught.exception.__class__, kind)
        self.assertEqual([shown(value) for value in values], before)
        return caught.exception

    def refused_number(self, call, value):
        error = self.refused(InvalidNumber, call, value)
        self.assertEqual(shown(error.value), shown(value))
        self.assertEqual(str(error), repr(value))

    def refused_many(self, limit, call, *values):
        self.assertEqual(self.refused(TooMany, call, *values).limit, limit)


class Kind:
    """A kind of argument: the error for others, which values are right, some right ones, some wrong ones."""

    def __init__(self, error, is_right, right, wrong=()):
        self.error = error
        self.is_right = is_right
        self.right = tuple(right)
        self.more_wrong = tuple(wrong)

    def wrong(self):
        return all_but(self.is_right) + list(self.more_wrong)


class Arguments(Refusals):
    """Calls with wrong arguments: the error is that of the first one that is wrong."""

    def check(self, call, *kinds):
        right = [kind.right[0] for kind in kinds]
        for at, kind in enumerate(kinds):
            for value in kind.wrong():
                self.check_error(kind, value, call, right[:at] + [value] + right[at + 1:])
        for at, kind in enumerate(kinds):
            for later in range(at + 1, len(kinds)):
                for value in kind.wrong()[::7]:
                    for other in kinds[later].wrong()[::11]:
                        passed = list(right)
                        passed[at], passed[later] = value, other
                        self.check_error(kind, value, call, passed)

    def check_error(self, kind, value, call, passed):
        error = self.refused(kind.error, call, *passed)
        if kind.error is InvalidNumber:
            self.assertEqual(shown(error.value), shown(value))
            self.assertEqual(str(error), repr(value))
