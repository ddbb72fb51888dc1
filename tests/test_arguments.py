"""[0.1] to [0.7]: which error comes first, for each parameter of the functions about moves.

A parameter has an error, whether it keeps the argument, and a rule that tells right
arguments in another way than the program does. The first parameter whose rule does
not hold tells the error.
"""

import itertools
import unittest

from truenames.errors import InvalidGroup, InvalidMove, InvalidNumber, InvalidTable
from truenames.group import groups, moves
from truenames.group.groups import Group
from truenames.table import passing
from truenames.table.passing import Passing
from tests.helper import SIX, SWITCH, TURNS, Case, some_values


def is_whole_number(value):
    return type(value) is int and len(str(abs(value))) <= 60


def moves_what(value):
    """The size of a move, or None."""
    if type(value) is not tuple or len(value) > 24 or any(type(thing) is not int for thing in value):
        return None
    return len(value) if sorted(value) == list(range(len(value))) else None


def right_move(value, ahead):
    return moves_what(value) is not None


def right_second_move(value, ahead):
    return moves_what(value) == len(ahead[0])


def right_integer(value, ahead):
    return is_whole_number(value)


def right_size(value, ahead):
    return is_whole_number(value) and value in range(25)


def right_makers(value, ahead):
    return type(value) is tuple and len(value) <= 24 and all(moves_what(maker) == ahead[0] for maker in value)


def right_thing(value, ahead):
    return is_whole_number(value) and value in range(ahead[0])


def right_group(value, ahead):
    return type(value) is Group


def right_table(value, ahead):
    return type(value) is Passing


def anything(value, ahead):
    return True


MOVE = (InvalidMove, False, right_move)
SIZE = (InvalidNumber, True, right_size)
MAKERS = (InvalidMove, False, right_makers)
THING = (InvalidNumber, True, right_thing)
VALUE = (None, False, anything)
FUNCTIONS = [
    (moves.joined, [MOVE, (InvalidMove, False, right_second_move)]),
    (moves.undone, [MOVE]),
    (moves.raised, [MOVE, (InvalidNumber, True, right_integer)]),
    (moves.cycles, [MOVE]),
    (moves.order_of, [MOVE]),
    (moves.closure, [SIZE, MAKERS]),
    (moves.orbits, [SIZE, MAKERS]),
    (Group.of_moves, [SIZE, MAKERS]),
]
MANY = [
    (moves.way, [SIZE, MAKERS, THING, THING]),
    (moves.is_way, [SIZE, MAKERS, THING, THING, VALUE]),
]
FEW_VALUES = [True, 0, 2, 3, 25, 10 ** 99, (), (1, 2, 0), ((1, 2, 0), (1, 0, 2)), ((1, 2, 0), [1, 0, 2]), [(1, 2, 0)]]


def tuples_of_arguments(many):
    """Tuples of arguments, in which one is any value and the others are some of a few."""
    return [
        few[:at] + (value,) + few[at:]
        for at in range(many)
        for value in some_values()
        for few in itertools.product(FEW_VALUES[::many - 1 or 1], repeat=many - 1)
    ]


class TestArguments(Case):

    def check(self, call, parameters, arguments):
        for index, (error, keeps, rule) in enumerate(parameters):
            if not rule(arguments[index], arguments):
                self.refuses(error, arguments[index] if keeps else None, call, *arguments)
                return True
        return False

    def test_one_and_two_parameters(self):
        for call, parameters in FUNCTIONS:
            refused = 0
            shown = tuples_of_arguments(len(parameters))
            for arguments in shown:
                refused += self.check(call, parameters, arguments)
            self.assertGreater(refused, 50, call)
            self.assertLess(refused, len(shown), call)

    def test_more_parameters(self):
        for call, parameters in MANY:
            refused = 0
            for arguments in tuples_of_arguments(4):
                refused += self.check(call, parameters, arguments + (None,) * (len(parameters) - 4))
            self.assertGreater(refused, 1000, call)

    def test_right_arguments_of_ways(self):
        for size in range(4):
            makers = (tuple(range(size)),)
            for start, goal in itertools.product((-1, 0, 1, 2, 3, True), repeat=2):
                for call, parameters in MANY:
                    arguments = (size, makers, start, goal, ())[:len(parameters)]
                    if not self.check(call, parameters, arguments):
                        told = () if start == goal else None
                        self.gives(told if call is moves.way else start == goal, call, *arguments)

    def test_numbers_of_sixty_digits_and_longer_ones(self):
        for many in (10 ** 59, 10 ** 60 - 1, 1 - 10 ** 60):
            self.assertEqual(moves.raised((0,), many), (0,))
            self.assertEqual(SIX.raised(0, many), 0)
        for many in (10 ** 60, -(10 ** 60), 10 ** 99, -(10 ** 99), 10 ** 100 - 1, 1 - 10 ** 100):
            self.refuses(InvalidNumber, many, moves.raised, (0,), many)
            self.refuses(InvalidNumber, many, SIX.raised, 0, many)
            for call in (Group.cyclic, Group.polygon, groups.all_groups, Passing.unmoved, SIX.back, SIX.order_of):
                self.refuses(InvalidNumber, many, call, many)
            self.refuses(InvalidNumber, many, SWITCH.passed, many, 0)
            self.refuses(InvalidNumber, many, SWITCH.passed, 0, many)

    def test_true_and_false_are_no_integers(self):
        for value in (True, False):
            for call in (Group.cyclic, Group.polygon, groups.all_groups, Passing.unmoved, SIX.back, SIX.order_of):
                self.refuses(InvalidNumber, value, call, value)
            self.refuses(InvalidNumber, value, SIX.times, value, 0)
            self.refuses(InvalidNumber, value, SIX.times, 0, value)
            self.refuses(InvalidNumber, value, SIX.raised, value, 0)
            self.refuses(InvalidNumber, value, SIX.raised, 0, value)
            self.refuses(InvalidNumber, value, SWITCH.passed, value, 0)
            self.refuses(InvalidNumber, value, SWITCH.passed, 0, value)

    def test_generators_wait_with_their_errors(self):
        for call, error in ((groups.likenesses, InvalidGroup), (passing.likenesses_of, InvalidTable)):
            for value in some_values():
                if not right_group(value, ()) and not right_table(value, ()):
                    waiting = call(value)
                    with self.assertRaises(error):
                        next(waiting)

    def test_is_functions_accept_every_value(self):
        rows = Group.cyclic(2).rows
        for value in some_values():
            for told in (
                moves.is_move(value), moves.is_way(2, ((1, 0),), 0, 1, value), groups.is_group_paper(rows, value),
                groups.is_like_paper(SIX, SIX, value), passing.is_fair_paper(TURNS.rows, value),
                passing.is_dots_paper(((0, 1), (0, 1)), value),
            ):
                self.assertIsInstance(told, bool)


if __name__ == "__main__":
    unittest.main()
