"""Moves: tuples that lead each thing below a size to another one."""

from math import lcm

from truenames.checks import check_integer, check_thing, check_within, is_row
from truenames.errors import InvalidMove, TooMany

MAX_MOVED = 24
MAX_CLOSURE = 1000


def is_move(value):
    """Whether the value is a move of some size."""
    if not isinstance(value, tuple) or len(value) > MAX_MOVED:
        return False
    return is_row(value, len(value), len(value)) and len(set(value)) == len(value)


def is_move_of(value, size):
    """Whether the value is a move of this size."""
    return is_move(value) and len(value) == size


def check_move(value):
    """Refuse what is no move."""
    if not is_move(value):
        raise InvalidMove("not a move")


def check_move_of(value, size):
    """Refuse what is no move of this size."""
    if not is_move_of(value, size):
        raise InvalidMove("not a move of this size")


def check_makers(size, makers):
    """Refuse what is no size, then what is no tuple of moves of this size."""
    check_within(size, 0, MAX_MOVED)
    if not isinstance(makers, tuple) or len(makers) > MAX_MOVED:
        raise InvalidMove("not a tuple of few enough moves")
    for maker in makers:
        check_move_of(maker, size)


def joined_moves(one, other):
    """Two moves joined, without checks."""
    return tuple([one[thing] for thing in other])


def undone_move(move):
    """A move undone, without checks."""
    sources = {goal: thing for thing, goal in enumerate(move)}
    return tuple([sources[thing] for thing in range(len(move))])


def joined(one, other):
    """The move that leads each thing to where one leads what other makes of it."""
    check_move(one)
    check_move_of(other, len(one))
    return joined_moves(one, other)


def undone(move):
    """The move that leads everything back."""
    check_move(move)
    return undone_move(move)


def raised(move, many):
    """The move joined many times with itself; undone as often below 0."""
    check_move(move)
    check_integer(many)
    goals = {}
    for cycle in _cycles_of(move):
        for index, thing in enumerate(cycle):
            goals[thing] = cycle[(index + many) % len(cycle)]
    return tuple([goals[thing] for thing in range(len(move))])


def cycles(move):
    """The ascending tuple of all cycles."""
    check_move(move)
    return tuple(_cycles_of(move))


def order_of(move):
    """The least number above 0 of joinings that make the move idle."""
    check_move(move)
    order = 1
    for cycle in _cycles_of(move):
        order = lcm(order, len(cycle))
    return order


def _cycles_of(move):
    seen = {}
    found = []
    for start in range(len(move)):
        if start not in seen:
            cycle = [start]
            while move[cycle[-1]] != start:
                cycle.append(move[cycle[-1]])
            for thing in cycle:
                seen[thing] = True
            found.append(tuple(cycle))
    return found


def closure(size, makers):
    """The ascending tuple of all moves that come of joining makers."""
    check_makers(size, makers)
    return closure_within(size, makers, MAX_CLOSURE)


def closure_within(size, makers, most):
    """The closure of checked makers, refused if it has more moves than most."""
    found = [tuple(range(size))]
    seen = {found[0]: True}
    reached = 0
    while reached < len(found):
        for maker in makers:
            further = joined_moves(found[reached], maker)
            if further not in seen:
                seen[further] = True
                found.append(further)
        if len(found) > most:
            raise TooMany(most)
        reached += 1
    return tuple(sorted(found))


def orbits(size, makers):
    """The tuple of all orbits, by their least things."""
    check_makers(size, makers)
    seen = {}
    found = []
    for start in range(size):
        if start not in seen:
            orbit = sorted(list(_ways_from(makers, start)))
            for thing in orbit:
                seen[thing] = True
            found.append(tuple(orbit))
    return tuple(found)


def way(size, makers, start, goal):
    """A shortest way from the start to the goal, or None."""
    _check_way(size, makers, start, goal)
    return _ways_from(makers, start).get(goal)


def is_way(size, makers, start, goal, value):
    """Whether the value is a shortest way from the start to the goal."""
    _check_way(size, makers, start, goal)
    shortest = _ways_from(makers, start).get(goal)
    if shortest is None or not is_row(value, len(shortest), len(makers)):
        return False
    here = start
    for index in value:
        here = makers[index][here]
    return here == goal


def _check_way(size, makers, start, goal):
    check_makers(size, makers)
    check_thing(start, size)
    check_thing(goal, size)


def _ways_from(makers, start):
    """A shortest way to each thing of an orbit, found step by step.

    The makers alone reach the whole orbit: an undone maker is the maker joined
    with itself often enough.
    """
    ways = {start: ()}
    found = [start]
    reached = 0
    while reached < len(found):
        here = found[reached]
        for index, maker in enumerate(makers):
            if maker[here] not in ways:
                ways[maker[here]] = ways[here] + (index,)
                found.append(maker[here])
        reached += 1
    return ways
