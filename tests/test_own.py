"""Stage 9 [9.1] to [9.8]: own doubles, reckoned by adding vectors and joining moves L step by step."""

import itertools
import math
import unittest

from truenames.double import own
from truenames.double.doubles import Double, table_of
from truenames.double.own import is_own, move_of, own_double, thing_of
from truenames.errors import InvalidDouble, InvalidNumber, InvalidOperation, InvalidTable, Refused, TooMany
from truenames.group.groups import Group
from truenames.table.passing import Passing
from truenames.word.still import exponent, own_count, remainder, turnings
from tests.helper import FOUR, RING, SWITCH, TURNS, all_moves, renamed_group, same, some_values
from tests.quiet import BLOCKS, LARGE, MIDDLE, QUIET, SMALL, side_by_side, turned_round
from tests.shown_doubles import SMALL_DOUBLES, moved_double
from tests.test_vectors import MOST, NONE, TABLES, VECTORS
from tests.vector_model import drawn_vectors, folded_vectors, rounds, turning_by_word, unit
from tests.wrong import DOUBLE, QUIET as THEN_QUIET, TABLE, VECTOR, WrongCase, below, row_of

TWO = Double.both(Group.cyclic(2))
MOST_OWN = side_by_side(turned_round(3), FOUR, (0, 1, 2, 3), (0, 1, 2))
TOO_MUCH = side_by_side(turned_round(4), FOUR, (0, 1, 2, 3), (0, 1, 2, 3))
LESS = [table for table in QUIET if math.prod(rounds(table)) <= 300 and own_count(table) <= 24] + [MOST_OWN]


def idle(table):
    return tuple(range(len(table)))


MADE = {}


def reckoned(table):
    """The own double, its names, the moves of its things: of all L of vectors with zeros ahead."""
    if table.rows in MADE:
        return MADE[table.rows]
    counts = []
    for letter in range(len(table) + 1):
        vectors = [vector for vector in folded_vectors(table) if not any(vector[:letter])]
        counts.append(len({turning_by_word(table, vector) for vector in vectors}))
    rests = list(itertools.product(*[range(counts[at] // counts[at + 1]) for at in range(len(table))]))
    moves = [turning_by_word(table, rest) for rest in rests]
    assert len(set(moves)) == len(moves)
    plus, circle = [], []
    for one, move in zip(rests, moves):
        sums = [tuple(a + b for a, b in zip(one, other)) for other in rests]
        plus.append(tuple(moves.index(turning_by_word(table, total)) for total in sums))
        circle.append(tuple(moves.index(tuple(move[x] for x in other)) for other in moves))
    names = tuple(moves.index(turning_by_word(table, unit(table, letter))) for letter in range(len(table)))
    MADE[table.rows] = (tuple(plus), tuple(circle), names, moves)
    return MADE[table.rows]


class TestOwn(WrongCase):

    def test_constant(self):
        self.assertEqual(own.MAX_OWN, 24)

    def test_own_doubles(self):
        for table in LESS:
            plus, circle, names, moves = reckoned(table)
            double, told = own_double(table)
            self.assertIs(type(double), Double)
            self.assertEqual((double.plus.rows, double.circle.rows), (plus, circle))
            self.assertTrue(same(told, names))
            self.gives((double, told), own_double, table)
            for thing, move in enumerate(moves):
                self.gives(move, move_of, table, thing)
            self.refuses(InvalidNumber, len(moves), move_of, table, len(moves))

    def test_things_of_vectors(self):
        for table in LESS:
            moves = reckoned(table)[3]
            for vector in drawn_vectors(1, table, 5, -9, 9) + drawn_vectors(2, table, 2, -MOST, MOST):
                self.gives(moves.index(turning_by_word(table, vector)), thing_of, table, vector)
            self.gives(0, thing_of, table, (0,) * len(table))
            things = sorted({remainder(table, vector) for vector in drawn_vectors(3, table, 60, -9, 9)})
            self.assertEqual(sorted(things), sorted(things, key=lambda vector: thing_of(table, vector)))

    def test_what_the_points_tell(self):
        for table in [table for table in QUIET if own_count(table) <= 24]:
            double, names = own_double(table)
            self.assertTrue(double.plus.is_commutative)
            self.assertEqual(double.unit, 0)
            self.assertEqual(double.size, own_count(table))
            self.assertEqual(double.plus.closure(tuple(sorted(set(names)))), tuple(range(double.size)))
            orders = [double.plus.order_of(thing) for thing in range(double.size)]
            self.assertEqual(exponent(table), math.lcm(*orders))
            moves = [move_of(table, thing) for thing in range(double.size)]
            self.assertEqual(sorted(moves), list(turnings(table)))
            for x, y in itertools.product(range(len(table)), repeat=2):
                self.assertEqual(names[x] == names[y], table.left[x] == table.left[y])
                u, v = table.passed(x, y)
                make = double.circle.rows
                self.assertEqual(make[names[x]][names[y]], make[names[u]][names[v]])
                self.assertEqual(double.turns[names[x]][names[y]], names[u])
            for thing, x in itertools.product(range(double.size), range(len(table))):
                self.assertEqual(double.turns[thing][names[x]], names[moves[thing][x]])
            self.assertTrue(is_own(table, double, names))

    def test_idle_tables(self):
        """[9.6]"""
        for size in range(9):
            double, names = own_double(Passing.unmoved(size))
            self.assertEqual((double.size, names), (1, (0,) * size))
        for table in SMALL + MIDDLE[:4]:
            double, names = own_double(table)
            for order in all_moves(len(table))[::3]:
                other = table.renamed(order)
                self.assertTrue(is_own(other, double, tuple(names[x] for x in order)))

    def test_bounds(self):
        self.assertEqual(own_count(MOST_OWN), 24)
        self.assertEqual(own_count(TOO_MUCH), 32)
        self.assertEqual(own_double(MOST_OWN)[0].size, 24)
        self.gives(move_of(MOST_OWN, 23), move_of, MOST_OWN, 23)
        eight = next(table for table in LARGE if own_count(table) == 64)
        for table in (TOO_MUCH, eight):
            self.refuses(TooMany, 24, own_double, table)
            self.refuses(TooMany, 24, move_of, table, 0)
            self.refuses(TooMany, 24, move_of, table, None)
            self.refuses(TooMany, 24, thing_of, table, (0,) * len(table))
            self.refuses(TooMany, 24, is_own, table, RING, (0,) * len(table))
        self.refuses(Refused, ("quiet",), move_of, TURNS, None)

    def test_is_own_by_trying_all_moves(self):
        """For each move of the things, and for each tuple of names."""
        for table in (BLOCKS, SWITCH, turned_round(3), SMALL[5], SMALL[-1], FOUR.renamed((1, 0, 2, 3))):
            double, names = own_double(table)
            moves = all_moves(len(double)) if len(double) <= 4 else all_moves(8)[::4321]
            for move in moves:
                other = moved_double(double, move)
                self.assertTrue(is_own(table, other, tuple(move.index(name) for name in names)))
            right = {
                tuple(move[name] for name in names) for move in all_moves(len(double))
                if len(double) <= 4 and moved_double(double, move) == double
            }
            for told in itertools.product(range(len(double)), repeat=len(table)):
                if len(double) <= 4:
                    self.gives(told in right, is_own, table, double, told)

    def test_doubles_that_are_not_own(self):
        four = (Double.both(Group.cyclic(4)), Double.both(Group.cyclic(2) * Group.cyclic(2)), RING)
        for double in four:
            for names in itertools.product(range(4), repeat=4):
                told = double == RING and names in ((1, 3, 3, 1), (3, 1, 1, 3))
                self.assertIs(is_own(BLOCKS, double, names), told)
        turned = Double.both(renamed_group(Group.cyclic(2), (1, 0)))
        self.assertIs(is_own(SWITCH, turned, (0, 0)), True)
        self.assertIs(is_own(SWITCH, turned, (1, 1)), False)
        self.assertIs(is_own(SWITCH, turned, (0, 1)), False)
        self.assertIs(is_own(NONE, Double.both(Group.cyclic(1)), ()), True)
        self.assertIs(is_own(NONE, TWO, ()), False)
        self.assertIs(is_own(Passing.unmoved(2), TWO, (0, 0)), False)
        for double in SMALL_DOUBLES:
            if len(double) > 8:
                continue
            for table in (SWITCH, FOUR, BLOCKS):
                names = tuple(x % len(double) for x in range(len(table)))
                self.assertIs(is_own(table, double, names), False)

    def test_what_the_document_says_is_not_true(self):
        """[9.8]"""
        self.assertEqual(own_double(SWITCH)[1], (1, 1))
        for size in range(1, 9):
            self.assertEqual(own_double(table_of(Double.both(Group.cyclic(size))))[0].size, 1)


NAMES = (
    InvalidOperation, False,
    lambda value, told: row_of(value, len(told[1])) and len(value) == len(told[0]),
)
OWN = (TooMany, 24, lambda arguments: own_count(arguments[0]) <= 24)
MANY = TABLES + (TOO_MUCH,)


class TestWrong(WrongCase):

    def test_wrong_arguments(self):
        found = self.tries(own_double, [TABLE], [THEN_QUIET, OWN], [()], [TOO_MUCH])
        self.assertEqual(sorted(found), ["InvalidTable", "Refused", "TooMany", "none"])
        vectors = VECTORS + ((0,) * 8,)
        found = self.tries(thing_of, [TABLE, VECTOR], [THEN_QUIET, OWN], [MANY, vectors], [(MOST, -MOST)])
        self.assertEqual(sorted(found), ["InvalidTable", "InvalidVector", "Refused", "TooMany", "none"])
        names = ((), (0, 1), (0, 0, 1), (1, True), [0, 0], (0, 4), (0,) * 8)
        found = self.tries(
            is_own, [TABLE, DOUBLE, NAMES], [THEN_QUIET, OWN], [MANY, (TWO, RING, None), names], [(0,) * 8, (1, 3)],
        )
        self.assertEqual(sorted(found), ["InvalidDouble", "InvalidOperation", "InvalidTable", "Refused", "TooMany", "none"])

    def test_wrong_things(self):
        for value in some_values():
            if not below(value, 2):
                self.refuses(InvalidNumber, value, move_of, SWITCH, value)
            self.refuses(Refused, ("quiet",), move_of, TURNS, value)
            self.refuses(TooMany, 24, move_of, TOO_MUCH, value)
            if type(value) is not Passing:
                self.refuses(InvalidTable, None, move_of, value, value)
            if type(value) is not Double:
                self.refuses(InvalidDouble, None, is_own, TURNS, value, value)


if __name__ == "__main__":
    unittest.main()
