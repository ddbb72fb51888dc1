"""Vectors reckoned in another way than the program does: by words, and by passing their letters."""

import itertools
import math
import random

from tests.quiet import joined_left, name_by_passing


def word_with(table, vector):
    """Some word with this vector, without entries below 0: letter by letter, by its last name."""
    word = ()
    for letter, many in reversed(list(enumerate(vector))):
        for _ in range(many):
            longer = [word + (x,) for x in range(len(table))]
            word = next(told for told in longer if name_by_passing(table, told, len(word)) == letter)
    return word


def unit(table, letter, many=1):
    return tuple(many * (x == letter) for x in range(len(table)))


def idle(table):
    return tuple(range(len(table)))


ROUNDS = {}


def rounds(table):
    """For each letter the least number above 0 of units with idle L: units are added until it comes."""
    if table.rows not in ROUNDS:
        ROUNDS[table.rows] = tuple(
            next(
                many for many in itertools.count(1)
                if joined_left(table, word_with(table, unit(table, letter, many))) == idle(table)
            )
            for letter in range(len(table))
        )
    return ROUNDS[table.rows]


TURNINGS = {}


def turning_by_word(table, vector):
    """L of a vector: of a word whose vector differs from it by units with idle L."""
    folded = tuple(entry % many for entry, many in zip(vector, rounds(table)))
    if (table.rows, folded) not in TURNINGS:
        TURNINGS[(table.rows, folded)] = joined_left(table, word_with(table, folded))
    return TURNINGS[(table.rows, folded)]


def moved_by(vector, move):
    told = [None] * len(move)
    for x, entry in enumerate(vector):
        told[move[x]] = entry
    return tuple(told)


def second(table, one, other):
    """The second sum."""
    return tuple(a + b for a, b in zip(one, moved_by(other, turning_by_word(table, one))))


def exponent_of(table):
    return math.lcm(*rounds(table))


def folded_vectors(table):
    """All vectors with entries from 0 to one less than the rounds."""
    return list(itertools.product(*[range(many) for many in rounds(table)]))


def drawn_vectors(seed, table, many, least, most):
    source = random.Random(seed)
    return [tuple(source.randint(least, most) for _ in range(len(table))) for _ in range(many)]
