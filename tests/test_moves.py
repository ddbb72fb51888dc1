"""Stage 1 [1.1] to [1.5]: moves, reckoned again by going through all of a small size."""

import itertools
import unittest

from truenames.errors import InvalidMove, TooMany
from truenames.group import moves
from truenames.group.moves import (
    closure, cycles, is_move, is_way, joined, orbits, order_of, raised, undone, way,
)
from tests.helper import Case, all_moves, some_values

SMALL = [move for size in range(5) for move in all_moves(size)]
TURN_24 = tuple(range(1, 24)) + (0,)
# Cycles of 3, 4, 5, 5 and 7 things: 24 things, and the order 420.
LONG = (1, 2, 0, 4, 5, 6, 3, 8, 9, 10, 11, 7, 13, 14, 15, 16, 12, 18, 19, 20, 21, 22, 23, 17)


def is_right_move(value):
    """Whether a value is a move, told in another way."""
    return (
        type(value) is tuple and len(value) <= 24
        and all(type(thing) is int for thing in value)
        and sorted(value) == list(range(len(value)))
    )


def idle(size):
    return tuple(range(size))


def closed_by_pairs(size, makers):
    """All joined moves, found by joining each two until nothing comes behind."""
    found = {idle(size), *makers}
    while True:
        wider = found | {tuple(a[b[x]] for x in range(size)) for a in found for b in found}
        if wider == found:
            return tuple(sorted(found))
        found = wider


def walked(makers, start, indices):
    for index in indices:
        start = makers[index][start]
    return start


def shortest_ways(size, makers, start, goal):
    """All shortest ways, found by trying all tuples of indices."""
    for length in range(size):
        tries = itertools.product(range(len(makers)), repeat=length)
        found = [indices for indices in tries if walked(makers, start, indices) == goal]
        if found:
            return found
    return []


def separate_turns(lengths):
    """The size, and for each length a move that turns so many things round."""
    size, begin, makers = sum(lengths), 0, []
    for length in lengths:
        maker = list(range(size))
        for index in range(length):
            maker[begin + index] = begin + (index + 1) % length
        makers.append(tuple(maker))
        begin += length
    return size, tuple(makers)


class TestMoves(Case):

    def test_constants(self):
        self.assertEqual((moves.MAX_MOVED, moves.MAX_CLOSURE), (24, 1000))

    def test_is_move(self):
        for value in some_values() + SMALL + [TURN_24, LONG]:
            self.gives(is_right_move(value), is_move, value)
        for size in range(4):
            for value in itertools.product((-1, 0, 1, 2, 3, True, False, "0", None), repeat=size):
                self.gives(is_right_move(value), is_move, value)
        self.gives(True, is_move, idle(24))
        self.gives(False, is_move, idle(25))
        self.gives(False, is_move, list(idle(3)))

    def test_joined(self):
        for one, other in itertools.product(SMALL, repeat=2):
            if len(one) == len(other):
                self.gives(tuple(one[other[x]] for x in range(len(one))), joined, one, other)
            else:
                self.refuses(InvalidMove, None, joined, one, other)
        self.gives(LONG, joined, LONG, idle(24))
        self.gives(tuple(LONG[(x + 1) % 24] for x in range(24)), joined, LONG, TURN_24)

    def test_undone(self):
        for move in SMALL + [LONG, TURN_24]:
            told = undone(move)
            self.assertEqual([told[move[x]] for x in range(len(move))], list(range(len(move))))
            self.gives(idle(len(move)), joined, told, move)
            self.gives(idle(len(move)), joined, move, told)

    def test_raised_by_joining(self):
        for move in SMALL + [LONG]:
            forth = back = idle(len(move))
            for many in range(14):
                self.gives(forth, raised, move, many)
                self.gives(back, raised, move, -many)
                forth = tuple(move[x] for x in forth)
                back = tuple(undone(move)[x] for x in back)

    def test_raised_by_numbers_of_sixty_digits(self):
        for move in ((), (0,), (1, 2, 0), (1, 0, 3, 4, 2), LONG, TURN_24):
            order = order_of(move)
            for many in (10 ** 50, -(10 ** 50), 10 ** 60 - 1, 1 - 10 ** 60, order * 10 ** 40, 10 ** 59 + 7):
                told = idle(len(move))
                for _ in range(many % order):
                    told = joined(told, move)
                self.gives(told, raised, move, many)

    def test_cycles(self):
        for move in SMALL + [LONG, TURN_24, idle(24)]:
            told = cycles(move)
            self.assertEqual(tuple(sorted(told)), told)
            self.assertEqual(sorted(sum(told, ())), list(range(len(move))))
            for cycle in told:
                self.assertEqual(min(cycle), cycle[0])
                for index, thing in enumerate(cycle):
                    self.assertEqual(move[thing], cycle[(index + 1) % len(cycle)])
        self.gives(((0, 1, 2), (3, 4, 5, 6), (7, 8, 9, 10, 11), (12, 13, 14, 15, 16), (17, 18, 19, 20, 21, 22, 23)),
                   cycles, LONG)
        self.gives((), cycles, ())
        self.gives(((0,),), cycles, (0,))
        self.gives(((0, 3, 1, 2),), cycles, (3, 2, 0, 1))

    def test_order_of(self):
        for move in SMALL + [TURN_24]:
            power, order = move, 1
            while power != idle(len(move)):
                power, order = tuple(move[x] for x in power), order + 1
            self.gives(order, order_of, move)
        self.gives(420, order_of, LONG)
        self.gives(12, order_of, (1, 2, 3, 0, 5, 6, 7, 8, 9, 4))

    def test_cycles_of_a_changed_move(self):
        """[1.2]: u put in the place of the things of m."""
        for size in range(5):
            for m, u in itertools.product(all_moves(size), repeat=2):
                told = cycles(joined(joined(u, m), undone(u)))
                self.assertEqual(
                    {frozenset(zip(c, c[1:] + c[:1])) for c in told},
                    {frozenset(zip([u[x] for x in c], [u[x] for x in c[1:] + c[:1]])) for c in cycles(m)},
                )


class TestClosures(Case):

    def test_closure(self):
        for size in range(4):
            for many in range(3):
                for makers in itertools.product(all_moves(size), repeat=many):
                    self.gives(closed_by_pairs(size, makers), closure, size, makers)
        for makers in (((1, 2, 3, 0),), ((1, 2, 3, 0), (1, 0, 2, 3)), ((1, 0, 3, 2), (2, 3, 0, 1))):
            self.gives(closed_by_pairs(4, makers), closure, 4, makers)

    def test_closure_of_many_makers(self):
        self.gives(tuple(all_moves(4)), closure, 4, tuple(all_moves(4)))
        self.gives((idle(24),), closure, 24, (idle(24),) * 24)
        turns = tuple(raised(TURN_24, many) for many in range(24))
        self.gives(tuple(sorted(turns)), closure, 24, turns)
        self.gives(((),), closure, 0, ((),) * 24)
        self.refuses(InvalidMove, None, closure, 24, (idle(24),) * 25)
        self.refuses(InvalidMove, None, closure, 0, ((),) * 25)

    def test_closure_at_its_bound(self):
        """Things that turn by themselves have as many moves as the product of the lengths."""
        for lengths, many in (((10, 5, 5, 4), 1000), ((3, 3, 3, 4, 9), 972), ((9, 10, 5), 450), ((2, 22), 44)):
            size, makers = separate_turns(lengths)
            told = closure(size, makers)
            self.assertEqual((len(told), len(set(told))), (many, many))
            self.assertEqual(tuple(sorted(told)), told)
        for lengths in ((2, 3, 4, 6, 7), (4, 6, 6, 7), (5, 6, 6, 6), (6, 6, 6, 6)):
            self.refuses(TooMany, 1000, closure, *separate_turns(lengths))

    def test_too_many_comes_last(self):
        makers = ((1, 2, 3, 4, 5, 6, 7, 0), (1, 0, 2, 3, 4, 5, 6, 7))
        self.refuses(TooMany, 1000, closure, 8, makers)
        self.refuses(InvalidMove, None, closure, 8, makers + (0,))
        self.refuses(InvalidMove, None, closure, 7, makers)
        self.assertEqual(len(closure(6, ((1, 2, 3, 4, 5, 0), (1, 0, 2, 3, 4, 5)))), 720)

    def test_orbits(self):
        for size in range(5):
            for makers in itertools.combinations(all_moves(size), 2):
                group = closed_by_pairs(size, makers)
                told = sorted({tuple(sorted({move[x] for move in group})) for x in range(size)})
                self.gives(tuple(told), orbits, size, makers)
                for orbit in told:
                    for x in orbit:
                        leaving = [move for move in group if move[x] == x]
                        self.assertEqual(len(orbit) * len(leaving), len(group))
        self.gives(tuple((x,) for x in range(24)), orbits, 24, ())
        self.gives((idle(24),), orbits, 24, (TURN_24,) * 24)
        self.gives(((0, 1, 2), (3, 4, 5, 6), tuple(range(7, 12)), tuple(range(12, 17)), tuple(range(17, 24))),
                   orbits, 24, (LONG,))

    def test_orbits_of_a_size_with_more_than_1000_moves(self):
        swap = (1, 0) + tuple(range(2, 24))
        self.gives((idle(24),), orbits, 24, (TURN_24, swap))


class TestWays(Case):

    CHOICES = [
        (1, ((0,),)),
        (2, ()),
        (3, ((1, 2, 0), (1, 0, 2))),
        (3, ((1, 2, 0),)),
        (4, ((1, 2, 3, 0), (1, 0, 2, 3))),
        (4, ((1, 0, 2, 3), (0, 1, 3, 2))),
        (5, ((1, 0, 2, 3, 4), (0, 2, 1, 3, 4), (0, 1, 3, 2, 4))),
        (5, ((1, 2, 3, 4, 0), (1, 2, 3, 4, 0))),
    ]

    def test_ways(self):
        for size, makers in self.CHOICES:
            for start, goal in itertools.product(range(size), repeat=2):
                told = shortest_ways(size, makers, start, goal)
                found = way(size, makers, start, goal)
                if told:
                    self.assertIn(found, told)
                    self.gives(found, way, size, makers, start, goal)
                else:
                    self.gives(None, way, size, makers, start, goal)
                for length in range(4):
                    for value in itertools.product(range(len(makers)), repeat=length):
                        self.gives(value in told, is_way, size, makers, start, goal, value)
                for value in told:
                    self.gives(True, is_way, size, makers, start, goal, value)

    def test_values_that_are_no_ways(self):
        makers = ((1, 2, 0), (1, 0, 2))
        self.gives(True, is_way, 3, makers, 0, 1, (1,))
        self.gives(True, is_way, 3, makers, 0, 1, (0,))
        for value in some_values() + [(True,), (False,), [0], [1], (2,), (-1,), ("0",), (10 ** 99,), (0, 0, 0, 0)]:
            self.gives(same_way(value, [(0,), (1,)]), is_way, 3, makers, 0, 1, value)
            self.gives(same_way(value, [()]), is_way, 3, makers, 0, 0, value)
            self.gives(same_way(value, [(0, 0), (1, 0)]), is_way, 3, makers, 0, 2, value)
            self.gives(False, is_way, 3, ((1, 0, 2),), 0, 2, value)
            self.gives(False, is_way, 3, (), 0, 2, value)

    def test_long_ways(self):
        self.gives((0,) * 23, way, 24, (TURN_24,), 0, 23)
        self.gives(True, is_way, 24, (TURN_24,), 0, 23, (0,) * 23)
        self.gives(False, is_way, 24, (TURN_24,), 0, 23, (0,) * 47)
        self.gives(False, is_way, 24, (TURN_24,), 0, 23, (0,) * 22)
        self.gives(True, is_way, 24, (TURN_24,) * 24, 0, 2, (23, 0))
        self.gives(False, is_way, 24, (TURN_24,) * 24, 0, 2, (24, 0))


def same_way(value, told):
    """Whether a value is one of the told tuples, with integers alone."""
    return type(value) is tuple and value in told and all(type(index) is int for index in value)


if __name__ == "__main__":
    unittest.main()
