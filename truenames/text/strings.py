"""Texts of words, tables, groups and doubles, written and read line by line."""

from truenames.checks import is_row
from truenames.double.doubles import MAX_DOUBLE, Double, double_paper
from truenames.errors import InvalidOperation, ParseError, Refused
from truenames.group.groups import MAX_GROUP, Group, group_paper
from truenames.table.passing import MAX_LETTERS, Passing, fair_paper
from truenames.word.words import MAX_WORD

MAX_TEXT = 3000
# How many unlike letters the words of texts can have.
MANY = 24


def write_value(value):
    """The text of a word, a table, a group or a double."""
    if isinstance(value, Passing):
        return _text("table", [[f"{u},{v}" for u, v in row] for row in value.rows], len(value))
    if isinstance(value, Group):
        return _text("group", value.rows, len(value))
    if isinstance(value, Double):
        return _text("double", value.plus.rows + value.circle.rows, len(value))
    if not isinstance(value, tuple) or len(value) > MAX_WORD or not is_row(value, len(value), MANY):
        raise InvalidOperation("not a word, a table, a group or a double")
    return " ".join(["word"] + [str(letter) for letter in value])


def _text(kind, rows, size):
    lines = [" ".join([str(entry) for entry in row]) for row in rows]
    return "\n".join([f"{kind} {size}"] + lines)


def read_value(text):
    """The value that a text tells."""
    if not isinstance(text, str) or len(text) > MAX_TEXT:
        raise ParseError(None)
    lines = text.split("\n")
    kind = lines[0].partition(" ")[0]
    if kind == "table":
        return _read_table(lines)
    if kind == "group":
        return _read_group(lines)
    if kind == "double":
        return _read_double(lines)
    return _read_word(lines)


def _read_word(lines):
    entries = lines[0].split(" ")
    letters = entries[1:]
    known = _numbers_below(MANY)
    if entries[0] != "word" or len(letters) > MAX_WORD or not all([letter in known for letter in letters]):
        raise ParseError(0)
    if len(lines) > 1:
        raise ParseError(1)
    return tuple([known[letter] for letter in letters])


def _read_table(lines):
    size = _read_size(lines[0], "table", 0, MAX_LETTERS)
    known = {f"{u},{v}": (u, v) for u in range(size) for v in range(size)}
    rows = _read_rows(lines, known, size, size)
    paper = fair_paper(rows)
    if paper != ("fair",):
        raise Refused(("table", paper))
    return Passing(rows)


def _read_group(lines):
    size = _read_size(lines[0], "group", 1, MAX_GROUP)
    return _group_of(_read_rows(lines, _numbers_below(size), size, size), "group")


def _read_double(lines):
    size = _read_size(lines[0], "double", 1, MAX_DOUBLE)
    rows = _read_rows(lines, _numbers_below(size), 2 * size, size)
    plus = _group_of(rows[:size], "plus")
    circle = _group_of(rows[size:], "circle")
    paper = double_paper(plus, circle)
    if paper != ("double",):
        raise Refused(("double", paper))
    return Double(plus, circle)


def _group_of(rows, word):
    paper = group_paper(rows)
    if paper != ("group",):
        raise Refused((word, paper))
    return Group(rows)


def _numbers_below(most):
    return {str(number): number for number in range(most)}


def _read_size(line, kind, least, most):
    """The size that the first line tells behind its kind."""
    for size in range(least, most + 1):
        if line == f"{kind} {size}":
            return size
    raise ParseError(0)


def _read_rows(lines, known, many, size):
    """The rows of so many lines behind the first one, each with as many known entries as the size."""
    rows = []
    for index in range(1, many + 1):
        if index == len(lines):
            raise ParseError(index)
        entries = lines[index].split(" ")
        if len(entries) != size or not all([entry in known for entry in entries]):
            raise ParseError(index)
        rows.append(tuple([known[entry] for entry in entries]))
    if len(lines) > many + 1:
        raise ParseError(many + 1)
    return tuple(rows)
