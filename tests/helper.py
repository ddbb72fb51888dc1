"""What several tests need: example values, values of all kinds, and a case class."""

import copy
import itertools
import unittest

from truenames.desk.desk import Desk
from truenames.double.doubles import Double
from truenames.errors import InvalidNumber, ParseError, NothingToUndo, Refused, TooMany, UnknownName
from truenames.group.groups import Group
from truenames.table.passing import Passing

SWITCH = Passing.of_left(((1, 0), (1, 0)))
FOUR = Passing.of_dots(((0, 1, 3, 2), (2, 3, 1, 0), (1, 0, 2, 3), (3, 2, 0, 1)))
TURNS = Passing((((0, 0), (2, 0), (1, 0)), ((2, 1), (1, 1), (0, 1)), ((1, 2), (0, 2), (2, 2))))
BENT = (((0, 0), (1, 0)), ((1, 1), (0, 1)))
SIX = Group.polygon(3)
RING = Double.of_turns(Group.cyclic(4), ((0, 1, 2, 3), (0, 3, 2, 1), (0, 1, 2, 3), (0, 3, 2, 1)))

KEPT = {
    ParseError: "spot",
    InvalidNumber: "value",
    UnknownName: "name",
    TooMany: "limit",
    Refused: "reason",
    NothingToUndo: "times",
}


def nested(depth, inner):
    """The inner value in so many tuples."""
    for _ in range(depth):
        inner = (inner,)
    return inner


def some_values():
    """Values of all kinds that the document lets be passed, right for nearly nothing."""
    return [
        None, True, False, 0, 1, 2, 3, -1, 8, 9, 12, 13, 24, 25, 10 ** 59, -(10 ** 59),
        10 ** 60 - 1, 1 - 10 ** 60, 10 ** 60, -(10 ** 60), 10 ** 99, -(10 ** 99),
        "", "0", "group", "fair", "x" * 3000, "a\nb",
        (), [], {}, (0,), [0], {0: 0}, (1,), (True,), (False,), (None,), ("0",), (-1,), (10 ** 99,),
        (0, 1), [0, 1], {0: 0, 1: 1}, (1, 0), [1, 0], (0, 0), (0, 2), (0, True), (False, 1), (0, "1"),
        (0, 1, 2), (1, 2, 0), (1, 0, 2), (2, 1, 0), (0, 1, 1), (0, 2), (1, 2), (0, 1, 2, 3), (0, 2, 4),
        tuple(range(8)), tuple(range(9)), tuple(range(24)), tuple(range(25)), tuple(range(23, -1, -1)),
        ((),), ((0,),), ([0],), [(0,)], ((0, 1), (1, 0)), ((1, 0), (1, 0)), ((1, 0), (0, 1)),
        [(0, 1), (1, 0)], ((0, 1), [1, 0]), ((0, 1), (1, True)), ((0, 1), (1, 2)), ((0, 1),),
        ((0, 1, 2), (1, 2, 0), (2, 0, 1)), ((1, 2, 0),), ((1, 2, 0), (1, 0, 2)), ((1, 2, 0), [1, 0, 2]),
        ((0, 1, 2),) * 24, ((0, 1, 2),) * 25, ((),) * 24, ((),) * 25,
        (((0, 0),),), (((1, 1), (0, 1)), ((1, 0), (0, 0))), (((1, 1), (0, 1)), ((1, 0), (0, 2))),
        (((1, 1), (0, 1)), ((1, 0), [0, 0])), [((1, 1), (0, 1)), ((1, 0), (0, 0))], (((0, 0, 0),),),
        ("group",), ("unit",), ("back", 1), ("three", 0, 0, 0), ("fair",), ("dots",), ("left", 0, 0, 1),
        ["group"], ("group", 0), ("like", (0, 1)), nested(8, 0), nested(8, "deep"), {"a": [{"b": (1,)}]},
        Group.cyclic(1), Group.cyclic(2), SIX, Passing.unmoved(0), SWITCH, TURNS,
        (Group.cyclic(2), SWITCH), {"group": Group.cyclic(2)}, RING, Double.about(SIX), [RING], (RING,),
        Desk(2), (Desk(0),), [Desk(2), {"desk": (Desk(1),)}],
    ]


def all_moves(size):
    """All moves of a size, ascending."""
    return list(itertools.permutations(range(size)))


def all_lots(size):
    """All ascending tuples of things below the size."""
    return [
        lot
        for many in range(size + 1)
        for lot in itertools.combinations(range(size), many)
    ]


def renamed_group(group, order):
    """The group whose thing i is the thing order[i] of this one."""
    names = {thing: index for index, thing in enumerate(order)}
    return Group(tuple(tuple(names[group.rows[a][b]] for b in order) for a in order))


def small_groups():
    """Groups of 1 to 12 things, some of them with a unit other than 0."""
    two = Group.cyclic(2)
    groups = [Group.cyclic(size) for size in range(1, 13)]
    groups += [two * two, Group.cyclic(4) * two, two * two * two, Group.quaternions(), two * SIX]
    groups += [Group.polygon(size) for size in range(1, 7)]
    groups += [Group.cyclic(3) * Group.cyclic(3), Group.cyclic(6) * two, ALTERNATING, DICYCLIC]
    groups += [renamed_group(group, tuple(range(len(group)))[::-1]) for group in groups]
    groups += [renamed_group(SIX, (3, 0, 4, 1, 5, 2)), renamed_group(Group.cyclic(4), (1, 0, 3, 2))]
    return groups


ALTERNATING = Group.of_moves(4, ((1, 2, 0, 3), (1, 0, 3, 2)))
DICYCLIC = Group.of_moves(7, ((1, 2, 0, 3, 4, 5, 6), (0, 2, 1, 4, 5, 6, 3)))
ALL_OF_FOUR = Group.of_moves(4, ((1, 2, 3, 0), (1, 0, 2, 3)))


def large_groups():
    """Groups of 16 to 24 things."""
    two = Group.cyclic(2)
    return [
        two * two * two * two,
        Group.cyclic(4) * Group.cyclic(4),
        Group.quaternions() * two,
        Group.cyclic(24),
        Group.polygon(12),
        ALL_OF_FOUR,
        two * two * SIX,
        renamed_group(ALL_OF_FOUR, tuple(range(24))[::-1]),
    ]


def same(one, other):
    """Whether two values are equal, and of equal kinds inside."""
    if type(one) is not type(other):
        return False
    if isinstance(one, (tuple, list)):
        return len(one) == len(other) and all(same(a, b) for a, b in zip(one, other))
    return one == other


class Case(unittest.TestCase):
    """A test case that compares kinds, too, and knows what errors keep."""

    def gives(self, told, call, *arguments):
        """Check a result and its kinds, twice, and that the arguments stay."""
        ahead = copy.deepcopy(arguments)
        for _ in range(2):
            result = call(*arguments)
            self.assertTrue(same(result, told), f"{call} {arguments}: {result} is not {told}")
        self.assertEqual(arguments, ahead)

    def refuses(self, error, kept, call, *arguments):
        """Check that a call raises just this error, with what it keeps, twice."""
        ahead = copy.deepcopy(arguments)
        for _ in range(2):
            with self.assertRaises(Exception, msg=f"{call} {arguments}") as caught:
                call(*arguments)
            self.assertIs(type(caught.exception), error, f"{call} {arguments}: {caught.exception!r}")
            if error in KEPT:
                value = getattr(caught.exception, KEPT[error])
                self.assertTrue(same(value, kept), f"{call} {arguments}: {value} is not {kept}")
        self.assertEqual(arguments, ahead)
