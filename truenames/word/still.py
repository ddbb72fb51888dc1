"""Still vectors, whose L is idle, and what vectors leave beside them."""

from math import lcm

from truenames.errors import TooMany
from truenames.group.moves import closure_within
from truenames.table.passing import check_quiet, check_table
from truenames.word.vectors import check_vector, check_vectors, round_of, scaled
from truenames.word.vectors import second_sum, stepped, summed

MAX_TURNINGS = 1000


def turnings(table):
    """The ascending tuple of all moves L of vectors."""
    check_table(table)
    check_quiet(table)
    return closure_within(len(table), table.left, MAX_TURNINGS)


def still_base(table):
    """The still base: a vector for each letter, with zeros ahead of it."""
    check_table(table)
    check_quiet(table)
    base, _ = base_and_remainders(table, MAX_TURNINGS)
    return base


def own_count(table):
    """The number of remainders, which is that of the turnings."""
    return len(turnings(table))


def exponent(table):
    """The least number above 0 by which all units become still."""
    check_table(table)
    check_few_turnings(table)
    return _exponent(table)


def check_few_turnings(table):
    """Refuse what is not quiet, then what has too many turnings."""
    check_quiet(table)
    base_and_remainders(table, MAX_TURNINGS)


def _exponent(table):
    many = 1
    for letter in range(len(table)):
        many = lcm(many, round_of(table, letter))
    return many


def base_and_remainders(table, most):
    """The still base, and the remainder for each turning; refused beyond so many.

    The base is found from its end: units at a letter are added until some vector
    with entries behind it alone has the same L.
    """
    idle = tuple(range(len(table)))
    zero = (0,) * len(table)
    base = ()
    known = {idle: zero}
    for letter in reversed(range(len(table))):
        here = stepped(table, idle, letter)
        many = 1
        while here not in known:
            here = stepped(table, here, letter)
            many += 1
        if len(known) * many > most:
            raise TooMany(most)
        units = zero[:letter] + (many,) + zero[letter + 1:]
        base = (less_base(base, summed(units, scaled(known[here], -1))),) + base
        known = _with_letter(table, known, letter, many)
    return (base, known)


def _with_letter(table, known, letter, many):
    """What is known by turning, with each entry below many at a letter."""
    grown = {}
    for start, vector in known.items():
        here = start
        for entry in range(many):
            grown[here] = vector[:letter] + (entry,) + vector[letter + 1:]
            here = stepped(table, here, letter)
    return grown


def less_base(base, vector):
    """A vector less those multiples of base vectors that leave the least entries.

    The base can be one of the last letters alone.
    """
    rest = vector
    for index, row in enumerate(base):
        letter = len(vector) - len(base) + index
        rest = summed(rest, scaled(row, -(rest[letter] // row[letter])))
    return rest


def remainder(table, vector):
    """The vector with the least entries that differs from this one by a still one."""
    check_table(table)
    check_vector(table, vector)
    check_quiet(table)
    base, _ = base_and_remainders(table, MAX_TURNINGS)
    return less_base(base, vector)


def is_still(table, vector):
    """Whether the L of a vector is idle."""
    return not any(remainder(table, vector))


def folded(table, vector):
    """A vector with each entry replaced by what it leaves modulo the exponent."""
    check_table(table)
    check_vector(table, vector)
    check_few_turnings(table)
    return _folded(table, vector)


def _folded(table, vector):
    many = _exponent(table)
    return tuple([entry % many for entry in vector])


def folded_added(table, one, other):
    """The second sum of two vectors, folded."""
    check_vectors(table, one, other)
    check_few_turnings(table)
    return _folded(table, second_sum(table, one, other))
