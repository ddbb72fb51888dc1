"""Quiet tables and fair ones for tests, and words reckoned by passing letter by letter."""

import itertools
import random

from truenames.errors import Refused
from truenames.table.passing import Passing
from tests.helper import FOUR, SWITCH, TURNS, all_moves

BLOCKS = Passing.of_left(((1, 0, 3, 2), (2, 3, 0, 1), (2, 3, 0, 1), (1, 0, 3, 2)))
LAST = Passing.of_left(((0, 1, 2), (0, 1, 2), (1, 0, 2)))


def quiet_of_size(size):
    """All quiet tables of a size, found by trying all L."""
    found = []
    for left in itertools.product(all_moves(size), repeat=size):
        try:
            found.append(Passing.of_left(left))
        except Refused:
            pass
    return found


def turned_round(size):
    """The table in which each L leads x to x + 1."""
    ahead = tuple((x + 1) % size for x in range(size))
    return Passing.of_left((ahead,) * size)


def side_by_side(one, other, first, second):
    """Two tables beside one another, whose letters move those of the other one."""
    size = len(one)
    left = [move + tuple(size + x for x in first) for move in one.left]
    left += [second + tuple(size + x for x in move) for move in other.left]
    return Passing.of_left(tuple(left))


SMALL = [table for size in range(4) for table in quiet_of_size(size)]
MIDDLE = [
    FOUR, BLOCKS, SWITCH * SWITCH, turned_round(4), turned_round(5), LAST * Passing.unmoved(1),
    FOUR.renamed((2, 0, 3, 1)), BLOCKS.renamed((3, 1, 0, 2)), side_by_side(SWITCH, LAST, (1, 0, 2), (1, 0)),
]
LARGE = [
    FOUR * SWITCH, turned_round(6), turned_round(7), turned_round(8), SWITCH * turned_round(3), Passing.unmoved(8),
    side_by_side(FOUR, FOUR, (0, 1, 2, 3), (0, 1, 2, 3)), BLOCKS * SWITCH,
    side_by_side(turned_round(3), turned_round(5), (1, 2, 3, 4, 0), (2, 0, 1)),
]
QUIET = SMALL + MIDDLE + LARGE
BENT_PAIR = Passing.of_pair((1, 2, 0), (1, 2, 0))
FAIR = [TURNS, BENT_PAIR, Passing.of_pair((1, 0), (0, 1)), TURNS * SWITCH, Passing.of_pair((1, 2, 3, 0), (2, 3, 0, 1))]


def drawn_words(seed, table, many, lengths):
    """Words of a table, drawn again alike for each seed."""
    source = random.Random(seed)
    if len(table) == 0:
        return [()]
    return [
        tuple(source.randrange(len(table)) for _ in range(source.choice(lengths)))
        for _ in range(many)
    ]


def all_words(table, length):
    return list(itertools.product(range(len(table)), repeat=length))


def pass_at(table, word, index):
    """The word behind passing at an index."""
    return word[:index] + table.rows[word[index]][word[index + 1]] + word[index + 2:]


def pass_all(table, word, indices):
    for index in indices:
        word = pass_at(table, word, index)
    return word


def name_by_passing(table, word, index):
    """The true name of a letter: what stands ahead when it has passed all letters ahead."""
    return pass_all(table, word, range(index - 1, -1, -1))[0]


def names_by_passing(table, word):
    return tuple(name_by_passing(table, word, index) for index in range(len(word)))


def steps_from(table, word):
    """For each kin word the fewest passings that lead to it, found by going from word to word."""
    steps = {word: 0}
    waiting = [word]
    for here in waiting:
        for index in range(len(word) - 1):
            there = pass_at(table, here, index)
            if there not in steps:
                steps[there] = steps[here] + 1
                waiting.append(there)
    return steps


def joined_left(table, word):
    """The joined L of all letters of a word, the first one outermost."""
    return tuple(
        pass_all(table, word + (x,), range(len(word) - 1, -1, -1))[0]
        for x in range(len(table))
    )
