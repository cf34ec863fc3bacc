"""Texts of words, tables, leads and other values."""

from signedcounts.base.names import MAX_DEPTH
from signedcounts.base.names import is_integer
from signedcounts.base.names import is_letters
from signedcounts.errors import InvalidOperation
from signedcounts.errors import ParseError
from signedcounts.lead.leads import Lead
from signedcounts.lead.leads import check_lead
from signedcounts.pattern.leading import patterns_of
from signedcounts.table.tables import Table
from signedcounts.table.tables import check_table
from signedcounts.text.numerals import has_letters
from signedcounts.text.numerals import is_numeral
from signedcounts.word.words import MAX_RUNS
from signedcounts.word.words import Word
from signedcounts.word.words import check_word
from signedcounts.word.words import reduced

_MAX_NESTED = 8


def write_word(word):
    """The text of a word."""
    check_word(word)
    lines = [f"run {letter} {exponent}" for letter, exponent in word.runs]
    return "\n".join([f"letters {word.letters}"] + lines)


def write_table(table):
    """The text of a table."""
    check_table(table)
    patterns = patterns_of(table.letters, table.depth)
    lines = [f"at {pattern} {entry}" for pattern, entry in zip(patterns, table.entries) if entry != 0]
    return "\n".join([f"letters {table.letters}", f"depth {table.depth}"] + lines)


def write_lead(lead):
    """The text of a lead."""
    check_lead(lead)
    lines = [_lead_line(letter, lead[letter].runs) for letter in lead.letters]
    return "\n".join([f"letters {lead.letters}", f"onto {lead.onto}"] + lines)


def write_value(value):
    """The text of a value."""
    return " ".join(_words_of(value, 0))


def read_word(text):
    """The word that has this text."""
    lines = _formed_lines(text, (("letters", "w"),), "run", "wi")
    letters = lines[0][1]
    runs = _runs_of([line[1:] for line in lines[1:]])
    if not _are_runs(letters, runs):
        raise ParseError(len(lines))
    return Word(letters, runs)


def read_table(text):
    """The table that has this text."""
    lines = _formed_lines(text, (("letters", "w"), ("depth", "i")), "at", "wi")
    letters = lines[0][1]
    depth = int(lines[1][1])
    if not is_letters(letters) or not 1 <= depth <= MAX_DEPTH:
        raise ParseError(len(lines))
    told = {line[1]: int(line[2]) for line in lines[2:]}
    table = Table(letters, depth, tuple([told.get(pattern, 0) for pattern in patterns_of(letters, depth)]))
    # The lines can be in another order, or too many, or tell 0.
    if write_table(table) != text:
        raise ParseError(len(lines))
    return table


def read_lead(text):
    """The lead that has this text."""
    lines = _formed_lines(text, (("letters", "w"), ("onto", "w")), "lead", "w")
    letters = lines[0][1]
    onto = lines[1][1]
    if not is_letters(letters) or [line[1] for line in lines[2:]] != list(letters):
        raise ParseError(len(lines))
    words = {}
    for line in lines[2:]:
        pairs = [line[start:start + 2] for start in range(2, len(line), 2)]
        if not _are_runs(onto, _runs_of(pairs)):
            raise ParseError(len(lines))
        words[line[1]] = Word(onto, _runs_of(pairs))
    return Lead(letters, words)


def read_value(text):
    """The value that has this text."""
    lines = _lines_of(text)
    found = _values_of(lines[0])
    if len(found) != 1:
        raise ParseError(0)
    if len(lines) > 1:
        raise ParseError(1)
    return found[0]


def _lead_line(letter, runs):
    return " ".join([f"lead {letter}"] + [f"{other} {exponent}" for other, exponent in runs])


def _words_of(value, deep):
    """The words of the text of a value that stands within so many tuples."""
    if value is None:
        return ["none"]
    if is_integer(value):
        return [f"{value}"]
    if isinstance(value, str) and has_letters(value):
        return ["=" + value]
    if not isinstance(value, tuple) or deep == _MAX_NESTED:
        raise InvalidOperation("only integers, strings of letters, None and tuples of these have a text")
    return ["("] + [word for part in value for word in _words_of(part, deep + 1)] + [")"]


def _values_of(line):
    """The values that the words of a line tell, one behind the other; none if they tell no values."""
    # The values that are read so far; those within a tuple that has not ended are in a list of their own.
    left = [[]]
    for word in line.split(" "):
        if word == "(" and len(left) <= _MAX_NESTED:
            left.append([])
        elif word == ")" and len(left) > 1:
            inner = left.pop()
            left[-1].append(tuple(inner))
        elif word == "none":
            left[-1].append(None)
        elif is_numeral(word):
            left[-1].append(int(word))
        elif word.startswith("=") and has_letters(word[1:]):
            left[-1].append(word[1:])
        else:
            return []
    return left[0] if len(left) == 1 else []


def _lines_of(text):
    if not isinstance(text, str):
        raise InvalidOperation("a text is a string")
    return text.split("\n")


def _formed_lines(text, heads, word, kinds):
    """The words of the lines: first the heads, each a word and the kinds of what is behind it, then all other lines.

    The kinds are w for any word and i for an integer.
    """
    lines = [line.split(" ") for line in _lines_of(text)]
    for index in range(len(lines)):
        first, wanted = heads[index] if index < len(heads) else (word, kinds)
        if first == "lead":
            wanted = wanted + "wi" * ((len(lines[index]) - 1) // 2)
        if not _has_form(lines[index], first, wanted):
            raise ParseError(index)
    if len(lines) < len(heads):
        raise ParseError(len(lines))
    return lines


def _has_form(line, first, kinds):
    if line[0] != first or len(line) != len(kinds) + 1:
        return False
    return all([is_numeral(word) if kind == "i" else word != "" for word, kind in zip(line[1:], kinds)])


def _runs_of(pairs):
    return tuple([(letter, int(numeral)) for letter, numeral in pairs])


def _are_runs(letters, runs):
    """Whether these are the runs of a word of the letters, if they are letters."""
    if not is_letters(letters) or not all([letter in list(letters) for letter, exponent in runs]):
        return False
    return reduced(runs) == runs and len(runs) <= MAX_RUNS
