"""The shell: lines that work at a desk."""

from signedcounts.base.names import MAX_TEXT
from signedcounts.desk.desk import Desk
from signedcounts.errors import InvalidName
from signedcounts.errors import InvalidNumber
from signedcounts.errors import InvalidOperation
from signedcounts.errors import InvalidPattern
from signedcounts.errors import InvalidText
from signedcounts.errors import NothingToUndo
from signedcounts.errors import TooMany
from signedcounts.errors import UnknownName
from signedcounts.lead.leads import Lead
from signedcounts.power.roots import greatest_root
from signedcounts.table.brackets import exponents
from signedcounts.text.formats import write_value
from signedcounts.text.numerals import has_letters
from signedcounts.text.numerals import has_small_letters
from signedcounts.text.numerals import is_numeral
from signedcounts.turn.commuting import table_level
from signedcounts.turn.turned import are_turned
from signedcounts.word.apart import parting
from signedcounts.word.words import Word

# The commands that change the desk, and the others, each with the kinds of the words behind it: n
# for a name, t for a text, i for a number, p for a pattern.
_CHANGES = {
    "put": ("nt",), "take": ("n",), "join": ("nn",), "turn": ("nn",), "cross": ("nn",), "flip": ("n",),
    "deepen": ("i",), "undo": ("", "i"), "redo": ("", "i"),
}
_QUESTIONS = {
    "names": ("",), "word": ("n",), "depth": ("",), "count": ("n", "np"), "exponents": ("n",), "level": ("n",),
    "root": ("n",), "alike": ("",), "crossing": ("",), "same": ("nn",), "turned": ("nn",), "parts": ("",),
}


class Shell:
    """A shell over a new desk."""

    def __init__(self, letters, depth):
        self._desk = Desk(letters, depth)

    def __call__(self, line):
        return self.answer(line)

    def __repr__(self):
        return f"<shell over {self._desk.letters}>"

    def desk(self):
        """A twin of the desk."""
        return self._desk.twin()

    def answer(self, line):
        """Does the command of a line, and tells the answer."""
        if not isinstance(line, str):
            return "what"
        words = line.split(" ")
        try:
            return self._answered(words[0], words[1:])
        except UnknownName as unknown:
            return f"unknown {unknown.name}"
        except InvalidName:
            return "name"
        except InvalidText:
            return "text"
        except InvalidPattern:
            return "pattern"
        except InvalidOperation:
            return "operation"
        except InvalidNumber as wrong:
            return f"number {wrong.value}"
        except TooMany as most:
            return f"many {most.limit}"
        except NothingToUndo as wanted:
            return f"undo {wanted.many}"

    def _answered(self, command, words):
        if command == "lead" and self._is_lead(words):
            self._lead(words)
            return "done"
        if command in _CHANGES and _are_of(words, _CHANGES[command]):
            self._change(command, words)
            return "done"
        if command in _QUESTIONS and _are_of(words, _QUESTIONS[command]):
            return self._told_at_once(command, words)
        return "what"

    def _is_lead(self, words):
        """Whether each letter of the desk is there, in order, with a text behind it."""
        letters = list(self._desk.letters)
        return words[::2] == letters and _are_of(words[1::2], ("t" * len(letters),))

    def _lead(self, words):
        letters = self._desk.letters
        told = {letter: self._word(text) for letter, text in zip(letters, words[1::2])}
        self._desk.lead_all(Lead(letters, told))

    def _word(self, text):
        return Word.of(self._desk.letters, text[1:])

    def _change(self, command, words):
        desk = self._desk
        many = int(words[0]) if command in ("undo", "redo") and words else 1
        if command == "put":
            desk.put(words[0], self._word(words[1]))
        elif command == "take":
            desk.take(words[0])
        elif command == "join":
            desk.join(words[0], words[1])
        elif command == "turn":
            desk.turn(words[0], words[1])
        elif command == "cross":
            desk.cross(words[0], words[1])
        elif command == "flip":
            desk.flip(words[0])
        elif command == "deepen":
            desk.deepen(int(words[0]))
        elif command == "undo":
            desk.undo(many=many)
        else:
            desk.redo(many=many)

    def _told_at_once(self, command, words):
        desk = self._desk
        if command == "names":
            return _row(desk.names)
        if command == "depth":
            return f"{desk.depth}"
        if command == "alike":
            return _row(["-".join(list(pair)) for pair in desk.alike()])
        if command == "crossing":
            return _row(["-".join(list(pair)) for pair in desk.crossing()])
        if command == "parts":
            return _or_none(desk.club().parts)
        if command == "same":
            return write_value(parting(desk[words[0]], desk[words[1]]))
        if command == "turned":
            return "yes" if are_turned(desk.table(words[0]), desk.table(words[1])) else "no"
        return self._told_of(command, words[0], "".join(words[1:]))

    def _told_of(self, command, name, pattern):
        """The answers to questions about one word."""
        desk = self._desk
        if command == "word":
            return _shown(desk[name])
        if command == "count":
            return f"{desk.counted(name, pattern)}"
        table = desk.table(name)
        if command == "exponents":
            return _row([f"{number}" for number in exponents(table)])
        if command == "level":
            return _or_none(table_level(table))
        return f"{greatest_root(table)[1]}"


def _are_of(words, forms):
    """Whether the words are of the kinds of one of the forms."""
    return any([len(words) == len(kinds) and _have_kinds(words, kinds) for kinds in forms])


def _have_kinds(words, kinds):
    return all([_is_of(word, kind) for word, kind in zip(words, kinds)])


def _is_of(word, kind):
    if kind == "t":
        return word.startswith("=") and has_letters(word[1:])
    if kind == "i":
        return is_numeral(word) and not word.startswith("-")
    if kind == "p":
        return word != "" and has_small_letters(word)
    return word != ""


def _shown(word):
    return "=" + word.shortest() if word.size <= MAX_TEXT else "long"


def _row(words):
    return " ".join(list(words)) if words else "none"


def _or_none(number):
    return "none" if number is None else f"{number}"
