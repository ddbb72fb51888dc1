"""The own double of a quiet table: its vectors, modulo those whose L is idle."""

from truenames.checks import check_thing, is_row
from truenames.double.doubles import Double, check_double
from truenames.errors import InvalidOperation
from truenames.group.groups import Group, images_of
from truenames.group.rows import keeps_products, move_rows
from truenames.table.passing import check_quiet, check_table
from truenames.word.still import base_and_remainders, less_base
from truenames.word.vectors import check_vector, summed, turning_of

MAX_OWN = 24


def own_double(table):
    """The own double of a table, and the names of all letters."""
    check_table(table)
    check_quiet(table)
    return _own_double(table)


def _own_double(table):
    base, known = base_and_remainders(table, MAX_OWN)
    vectors = sorted(list(known.values()))
    numbers = {vector: thing for thing, vector in enumerate(vectors)}
    plus = Group(tuple([
        tuple([numbers[less_base(base, summed(one, other))] for other in vectors])
        for one in vectors
    ]))
    moves = own_moves(table)
    circle = Group(move_rows(moves))
    return (Double(plus, circle), tuple([moves.index(move) for move in table.left]))


def own_moves(table):
    """The moves of all things of the own double of a quiet table."""
    _, known = base_and_remainders(table, MAX_OWN)
    moves = {vector: move for move, vector in known.items()}
    return tuple([moves[vector] for vector in sorted(list(known.values()))])


def move_of(table, thing):
    """The move of a thing of the own double."""
    check_table(table)
    check_quiet(table)
    moves = own_moves(table)
    check_thing(thing, len(moves))
    return moves[thing]


def thing_of(table, vector):
    """The thing of the own double to which a vector belongs."""
    check_table(table)
    check_vector(table, vector)
    check_quiet(table)
    return own_moves(table).index(turning_of(table, vector))


def is_own(table, double, names):
    """Whether a double is the own one of a table, with these names of the letters."""
    check_table(table)
    check_double(double)
    if not is_row(names, len(table), len(double)):
        raise InvalidOperation("not a tuple with a thing for each letter")
    check_quiet(table)
    own, told = _own_double(table)
    if len(own) != len(double):
        return False
    pairs = [(name, names[letter]) for letter, name in enumerate(told)]
    # The names make all of plus, so at most one move leads them as told.
    images = images_of(own.plus, double.plus, pairs)
    return images is not None and keeps_products(own.circle.rows, double.circle.rows, images)
