"""Doubles for tests, made in other ways than the program makes them, and their rules."""

import itertools
import math

from truenames.double.doubles import Double
from truenames.group.groups import Group
from tests.helper import RING, SIX, all_moves, large_groups, renamed_group, small_groups


def minus(group):
    """What takes each thing back, found by going through all things."""
    return [next(b for b in range(len(group)) if group.rows[a][b] == group.unit) for a in range(len(group))]


def keeps_rule(plus, circle, a, b, c):
    add, make, back = plus.rows, circle.rows, minus(plus)
    return make[a][add[b][c]] == add[add[make[a][b]][back[a]]][make[a][c]]


def rule_papers(plus, circle):
    """All right papers about two groups, ascending."""
    add, make, back = plus.rows, circle.rows, minus(plus)
    papers = [
        ("rule", a, b, c) for a, b, c in itertools.product(range(len(plus)), repeat=3)
        if make[a][add[b][c]] != add[add[make[a][b]][back[a]]][make[a][c]]
    ]
    return papers or [("double",)]


def turn_papers(plus, turns):
    """All right papers about moves on plus, in the order of the document."""
    add, things = plus.rows, range(len(plus))
    papers = [
        ("likeness", a, b, c) for a, b, c in itertools.product(things, repeat=3)
        if turns[a][add[b][c]] != add[turns[a][b]][turns[a][c]]
    ]
    papers += [
        ("joined", a, b) for a, b in itertools.product(things, repeat=2)
        if any(turns[add[a][turns[a][b]]][x] != turns[a][turns[b][x]] for x in things)
    ]
    return papers or [("turns",)]


def multiples_of(size, step):
    """The sum modulo the size, and a + b + step a b."""
    rows = tuple(tuple((a + b + step * a * b) % size for b in range(size)) for a in range(size))
    return Double(Group.cyclic(size), Group(rows))


def mirrored(size):
    """Plus cyclic of an even size, in which odd things turn the sign."""
    turns = tuple(tuple((-1) ** a * b % size for b in range(size)) for a in range(size))
    return Double.of_turns(Group.cyclic(size), turns)


def moved_double(double, order):
    """The double whose thing i is the thing order[i] of this one."""
    return Double(renamed_group(double.plus, order), renamed_group(double.circle, order))


def behind(group):
    return Group(tuple(zip(*group.rows)))


def opened_double(one, other):
    """A double of pairs, reckoned pair by pair."""
    size = len(other)
    rows = []
    for first, second in ((one.plus, other.plus), (one.circle, other.circle)):
        rows.append(Group(tuple(
            tuple(
                first.rows[a // size][b // size] * size + second.rows[a % size][b % size]
                for b in range(len(one) * size)
            )
            for a in range(len(one) * size)
        )))
    return Double(rows[0], rows[1])


SMALL_RINGS = [
    multiples_of(size, step) for size in range(1, 13) for step in range(size)
    if all(math.gcd(1 + step * a, size) == 1 for a in range(size))
]
SMALL_DOUBLES = SMALL_RINGS + [RING, mirrored(2), mirrored(6), mirrored(8), mirrored(10)]
SMALL_DOUBLES += [make(group) for group in small_groups()[:20] for make in (Double.both, Double.about)]
SMALL_DOUBLES += [moved_double(RING, order) for order in all_moves(4)[::5]]
SMALL_DOUBLES += [moved_double(mirrored(6), (3, 1, 5, 0, 2, 4)), moved_double(Double.about(SIX), (2, 3, 4, 5, 0, 1))]
SMALL_DOUBLES += [opened_double(RING, Double.both(Group.cyclic(2))), opened_double(mirrored(2), mirrored(6))]
LARGE_DOUBLES = [make(group) for group in large_groups() for make in (Double.both, Double.about)]
LARGE_DOUBLES += [opened_double(RING, mirrored(6)), mirrored(24), multiples_of(16, 2), multiples_of(24, 6)]
LARGE_DOUBLES += [moved_double(mirrored(24), tuple((5 * a + 3) % 24 for a in range(24)))]
LARGE_DOUBLES += [moved_double(Double.about(large_groups()[5]), tuple((7 * a + 2) % 24 for a in range(24)))]
DOUBLES = SMALL_DOUBLES + LARGE_DOUBLES
