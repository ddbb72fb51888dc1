"""Which error comes first: calls are described, and each argument is tried with many values.

A parameter has an error, whether the error keeps the argument, and a rule over the
value and all arguments that tells right ones in another way than the program does.
Behind the parameters stand the errors that come "then", each with what it keeps, or a
function that tells it of all arguments, and a rule over all arguments that must hold.
"""

import itertools

from truenames.double.doubles import Double
from truenames.errors import (
    InvalidDouble, InvalidGroup, InvalidNumber, InvalidOperation, InvalidTable, InvalidVector, InvalidWord, Refused,
)
from truenames.group.groups import Group
from truenames.table.passing import Passing
from tests.helper import KEPT, Case, same, some_values


def whole(value):
    return type(value) is int and len(str(abs(value))) <= 60


def below(value, size):
    return whole(value) and value in range(size)


def row_of(value, size):
    return type(value) is tuple and all(below(entry, size) for entry in value)


def lot_of(value, size):
    return row_of(value, size) and all(a < b for a, b in itertools.pairwise(value))


def move_of_size(value, size):
    return row_of(value, size) and sorted(value) == list(range(size))


def is_word(value, arguments):
    return row_of(value, len(arguments[0])) and len(value) <= 200


def is_vector(value, arguments):
    return type(value) is tuple and len(value) == len(arguments[0]) and all(whole(entry) for entry in value)


def is_lot_of_first(value, arguments):
    return lot_of(value, len(arguments[0]))


def is_thing_of_first(value, arguments):
    return below(value, len(arguments[0]))


TABLE = (InvalidTable, False, lambda value, arguments: type(value) is Passing)
GROUP = (InvalidGroup, False, lambda value, arguments: type(value) is Group)
DOUBLE = (InvalidDouble, False, lambda value, arguments: type(value) is Double)
WORD = (InvalidWord, False, is_word)
VECTOR = (InvalidVector, False, is_vector)
INTEGER = (InvalidNumber, True, lambda value, arguments: whole(value))
LOT = (InvalidOperation, False, is_lot_of_first)
THING = (InvalidNumber, True, is_thing_of_first)
VALUE = (None, False, lambda value, arguments: True)
QUIET = (Refused, ("quiet",), lambda arguments: arguments[0].is_quiet)


def first_error(parameters, thens, arguments):
    for index, (error, keeps, rule) in enumerate(parameters):
        if not rule(arguments[index], arguments):
            return (error, arguments[index] if keeps else None)
    for error, kept, rule in thens:
        if not rule(arguments):
            return (error, kept(arguments) if callable(kept) else kept)
    return None


class WrongCase(Case):
    """A case that tries each argument with many values, beside some others."""

    def tries(self, call, parameters, thens, others, more=()):
        """Each place gets all values; the other places get each of their few others.

        Returns how often each error was raised, and how often none.
        """
        told = {}
        for at in range(len(parameters)):
            for value in some_values() + list(more):
                for rest in itertools.product(*(others[:at] + others[at + 1:])):
                    arguments = rest[:at] + (value,) + rest[at:]
                    error = first_error(parameters, thens, arguments)
                    name = error[0].__name__ if error else "none"
                    told[name] = told.get(name, 0) + 1
                    if error is not None:
                        self.raises_just(error, call, arguments)
                    else:
                        call(*arguments)
        return told

    def raises_just(self, error, call, arguments):
        try:
            call(*arguments)
        except Exception as caught:
            self.assertIs(type(caught), error[0], f"{call} {arguments}: {caught!r} is not {error}")
            if error[0] in KEPT:
                kept = getattr(caught, KEPT[error[0]])
                self.assertTrue(same(kept, error[1]), f"{call} {arguments}: {kept} is not {error[1]}")
        else:
            self.fail(f"{call} {arguments}: no {error}")
