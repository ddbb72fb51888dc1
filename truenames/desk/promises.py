"""Promises that a desk keeps: their forms, and whether they are true."""

from truenames.checks import is_within
from truenames.double.own import own_double
from truenames.errors import TooMany
from truenames.table.levels import letter_parts, level
from truenames.table.passing import Passing
from truenames.table.shadows import calm_paper, shadow_of
from truenames.word.words import names_of

# How many names stand behind the word of each promise.
NAMED = {"quiet": 1, "calm": 1, "whole": 1, "level": 1, "kin": 3, "named": 3, "own": 2}
# The most characters of a name, and the greatest level.
MAX_NAME = 8
MAX_LEVEL = 8


def is_name(value):
    """Whether the value can be the name of an item, or the label of a promise."""
    if not isinstance(value, str) or not 1 <= len(value) <= MAX_NAME:
        return False
    return all(["a" <= character <= "z" for character in value])


def is_promise(value):
    """Whether the value has the form of a promise."""
    if not isinstance(value, tuple) or len(value) == 0:
        return False
    word = value[0]
    if not isinstance(word, str) or word not in NAMED:
        return False
    names, rest = value[1:NAMED[word] + 1], value[NAMED[word] + 1:]
    if len(names) != NAMED[word] or not all([is_name(name) for name in names]):
        return False
    if word == "level":
        return len(rest) == 1 and (rest[0] is None or is_within(rest[0], 0, MAX_LEVEL))
    return len(rest) == 0


def names_in(promise):
    """The names in a promise."""
    return promise[1:NAMED[promise[0]] + 1]


def is_true(promise, items):
    """Whether a promise is true of the items under their names."""
    names = names_in(promise)
    if not all([name in items for name in names]):
        return False
    told = [items[name] for name in names]
    table = told[0]
    if not isinstance(table, Passing):
        return False
    if promise[0] == "calm":
        return calm_paper(shadow_of(table)) == ("calm",)
    return table.is_quiet and _is_true_of_quiet(promise, table, told[1:])


def _is_true_of_quiet(promise, table, others):
    word = promise[0]
    if word == "whole":
        return len(letter_parts(table)) <= 1
    if word == "level":
        return level(table) == promise[2]
    if word == "own":
        return _is_own(table, others[0])
    if word == "quiet":
        return True
    one, other = others
    if not isinstance(one, tuple) or not isinstance(other, tuple):
        return False
    if word == "named":
        return names_of(table, one) == other
    return sorted(names_of(table, one)) == sorted(names_of(table, other))


def _is_own(table, value):
    """Whether a value is the own double of a quiet table."""
    try:
        own, _ = own_double(table)
    except TooMany:
        # No double has that many things.
        return False
    return own == value
