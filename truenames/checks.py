"""Checks of values and arguments that several modules share."""

from truenames.errors import InvalidNumber, InvalidOperation

# The least number above 0 that has more than sixty digits.
TOO_LONG = 10 ** 60


def is_integer(value):
    """Whether the value is an integer of at most sixty digits."""
    if not isinstance(value, int) or isinstance(value, bool):
        return False
    return -TOO_LONG < value < TOO_LONG


def is_within(value, least, most):
    """Whether the value is an integer within the bounds."""
    return is_integer(value) and least <= value <= most


def is_thing(value, size):
    """Whether the value is a thing, or letter, below the size."""
    return is_integer(value) and 0 <= value < size


def is_row(value, many, size):
    """Whether the value is a tuple of so many things below the size."""
    if not isinstance(value, tuple) or len(value) != many:
        return False
    for thing in value:
        if not isinstance(thing, int) or isinstance(thing, bool) or not 0 <= thing < size:
            return False
    return True


def is_square(value, least, most):
    """Whether the value is a tuple of so many rows of as many things."""
    if not isinstance(value, tuple) or not least <= len(value) <= most:
        return False
    return all([is_row(row, len(value), len(value)) for row in value])


def is_lot(value, size):
    """Whether the value is an ascending tuple of things below the size."""
    if not isinstance(value, tuple) or not is_row(value, len(value), size):
        return False
    return value == tuple(sorted(set(value)))


def is_same(value, told):
    """Whether the value equals a paper of strings, integers and tuples.

    Python's own comparison would take True for 1.
    """
    if isinstance(told, tuple):
        if not isinstance(value, tuple) or len(value) != len(told):
            return False
        return all([is_same(part, told[index]) for index, part in enumerate(value)])
    if isinstance(told, str):
        return isinstance(value, str) and value == told
    return is_integer(value) and value == told


def is_told(value, word, many, size):
    """Whether the value is the word with so many things of the size behind it."""
    if not isinstance(value, tuple) or len(value) != many + 1:
        return False
    return is_same(value[0], word) and is_row(value[1:], many, size)


def check_integer(value):
    """Refuse what is no integer of at most sixty digits."""
    if not is_integer(value):
        raise InvalidNumber(value)


def check_within(value, least, most):
    """Refuse what is no integer within the bounds."""
    if not is_within(value, least, most):
        raise InvalidNumber(value)


def check_thing(value, size):
    """Refuse what is no thing, or letter, below the size."""
    if not is_thing(value, size):
        raise InvalidNumber(value)


def check_lot(value, size):
    """Refuse what is no ascending tuple of things below the size."""
    if not is_lot(value, size):
        raise InvalidOperation("not an ascending tuple of things")
