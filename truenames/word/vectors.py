"""Vectors: how often each letter is a true name, and their second sum."""

from truenames.checks import check_integer, is_integer
from truenames.errors import InvalidVector, TooMany
from truenames.group.moves import joined_moves, undone_move
from truenames.table.passing import check_quiet, check_table
from truenames.word.words import MAX_WORD, check_word, names_of

# The most digits of an entry.
MAX_DIGITS = 60


def check_vector(table, vector):
    """Refuse what is no tuple with an integer for each letter."""
    if not isinstance(vector, tuple) or len(vector) != len(table):
        raise InvalidVector("not a tuple with an entry for each letter")
    if not all([is_integer(entry) for entry in vector]):
        raise InvalidVector("not a tuple of integers")


def summed(one, other):
    """Two vectors, added entry by entry."""
    return tuple([entry + other[letter] for letter, entry in enumerate(one)])


def scaled(vector, many):
    """A vector with all entries multiplied."""
    return tuple([entry * many for entry in vector])


def moved(vector, move):
    """A vector whose entry at the move of x is the former entry at x."""
    return tuple([vector[letter] for letter in undone_move(move)])


def stepped(table, here, name):
    """The L of a vector with one more at a name, where here is the L of the vector."""
    return joined_moves(here, table.left[here.index(name)])


def round_of(table, letter):
    """The least number above 0 of units at a letter whose L is idle."""
    idle = tuple(range(len(table)))
    here = stepped(table, idle, letter)
    many = 1
    while here != idle:
        here = stepped(table, here, letter)
        many += 1
    return many


def turning_of(table, vector):
    """L of a vector, without checks."""
    here = tuple(range(len(table)))
    for letter, entry in enumerate(vector):
        # Units whose L is idle change nothing, so those that are left tell L.
        for _ in range(entry % round_of(table, letter)):
            here = stepped(table, here, letter)
    return here


def second_sum(table, one, other):
    """The second sum of two vectors, without checks."""
    return summed(one, moved(other, turning_of(table, one)))


def _vector_back(table, vector):
    return scaled(moved(vector, undone_move(turning_of(table, vector))), -1)


def _short(vector):
    """The vector, refused if an entry has too many digits."""
    if not all([is_integer(entry) for entry in vector]):
        raise TooMany(MAX_DIGITS)
    return vector


def _check_one(table, vector):
    check_table(table)
    check_vector(table, vector)
    check_quiet(table)


def check_vectors(table, one, other):
    """Refuse what is no table, no vector or no second one, and what is not quiet."""
    check_table(table)
    check_vector(table, one)
    check_vector(table, other)
    check_quiet(table)


def vector_of(table, word):
    """How often each letter is a true name in a word."""
    check_table(table)
    check_word(table, word)
    check_quiet(table)
    names = names_of(table, word)
    return tuple([names.count(letter) for letter in range(len(table))])


def turning(table, vector):
    """L of a vector."""
    _check_one(table, vector)
    return turning_of(table, vector)


def word_of(table, vector):
    """The least word with this vector."""
    check_table(table)
    check_vector(table, vector)
    if any([entry < 0 for entry in vector]):
        raise InvalidVector("an entry is below 0")
    check_quiet(table)
    if sum(vector) > MAX_WORD:
        raise TooMany(MAX_WORD)
    return _least_word(table, vector)


def _least_word(table, vector):
    """The word of the least letters, each taken as long as its name is wanted.

    What is begun so can always be ended.
    """
    here = tuple(range(len(table)))
    counts = list(vector)
    word = []
    for _ in range(sum(vector)):
        letter = min([index for index, name in enumerate(here) if counts[name] > 0])
        counts[here[letter]] -= 1
        word.append(letter)
        here = joined_moves(here, table.left[letter])
    return tuple(word)


def added(table, one, other):
    """The second sum of two vectors."""
    check_vectors(table, one, other)
    return _short(second_sum(table, one, other))


def taken_back(table, vector):
    """The vector whose second sum with this one is zero."""
    _check_one(table, vector)
    return _vector_back(table, vector)


def power(table, vector, many):
    """The second sum of a vector with itself, many times; taken back below 0."""
    check_table(table)
    check_vector(table, vector)
    check_integer(many)
    check_quiet(table)
    return _short(_power(table, vector, many))


def _power(table, vector, many):
    """A power, told by those up to the first one with idle L: it is added again and again."""
    idle = tuple(range(len(table)))
    maker = turning_of(table, vector)
    powers = [(0,) * len(table), vector]
    here = maker
    while here != idle:
        powers.append(summed(powers[-1], moved(vector, here)))
        here = joined_moves(here, maker)
    rounds, rest = divmod(many, len(powers) - 1)
    return summed(scaled(powers[-1], rounds), powers[rest])


def rest_behind(table, one, other):
    """The vector u for which the second sum of one and u is other."""
    check_vectors(table, one, other)
    return _short(_rest_behind(table, one, other))


def _rest_behind(table, one, other):
    return moved(summed(other, scaled(one, -1)), undone_move(turning_of(table, one)))


def rest_ahead(table, one, other):
    """The vector u for which the second sum of u and one is other."""
    check_vectors(table, one, other)
    return _short(_rest_ahead(table, one, other))


def _rest_ahead(table, one, other):
    return second_sum(table, other, _vector_back(table, one))


def is_beginning(table, one, other):
    """Whether some vector without entries below 0 goes on from one to other."""
    check_vectors(table, one, other)
    return all([entry <= other[letter] for letter, entry in enumerate(one)])


def is_ending(table, one, other):
    """Whether other comes of some vector without entries below 0, and one behind it."""
    check_vectors(table, one, other)
    return all([entry >= 0 for entry in _rest_ahead(table, one, other)])


def least_common(table, one, other):
    """The least vector that both begin, and what goes on to it from both."""
    check_vectors(table, one, other)
    whole = tuple([max(entry, other[letter]) for letter, entry in enumerate(one)])
    first = _short(_rest_behind(table, one, whole))
    return (whole, first, _short(_rest_behind(table, other, whole)))


def greatest_common(table, one, other):
    """The greatest vector that begins both, and what goes on from it to both."""
    check_vectors(table, one, other)
    whole = tuple([min(entry, other[letter]) for letter, entry in enumerate(one)])
    first = _short(_rest_behind(table, whole, one))
    return (whole, first, _short(_rest_behind(table, whole, other)))
