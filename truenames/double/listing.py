"""All doubles on one plus: their turn rows, and their kinds.

Doubles are told here by the rows of their circles: the row of a leads x to a plus the
turn of a, of x. These rows are moves, closed under joining, of which just one leads
the unit to each thing. So a row is named by the thing to which it leads the unit.
"""

from truenames.double.doubles import Double
from truenames.errors import TooMany
from truenames.group.groups import Group, check_group, counts_of_orders, likenesses, order_counts
from truenames.group.moves import closure_within, joined_moves, undone_move
from truenames.group.rows import backs_of, renamed_rows

MAX_LISTED = 8


def turn_rows(plus):
    """All turn rows on plus, ascending."""
    check_group(plus)
    _check_few(plus)
    backs = backs_of(plus.rows, plus.unit)
    moves = list(likenesses(plus))
    for circle in _circles(plus, moves):
        yield tuple([joined_moves(plus.rows[backs[a]], row) for a, row in enumerate(circle)])


def doubles_on(plus):
    """One double of each kind on plus, ascending by their turn rows."""
    check_group(plus)
    _check_few(plus)
    for circle in _kinds(plus):
        yield Double(plus, Group(circle))


def kind_count(plus):
    """The number of kinds of doubles on plus."""
    check_group(plus)
    _check_few(plus)
    return len(_kinds(plus))


def turns_like(plus, kind):
    """The number of turn rows on plus whose circle is alike with a group."""
    _check_two(plus, kind)
    if len(plus) != len(kind):
        return 0
    return _count_like(plus, kind, list(likenesses(plus)))


def kept_lots(group, kind):
    """The number of lots of moves, alike with kind, that a group keeps."""
    _check_two(group, kind)
    if len(group) != len(kind):
        return 0
    moves = list(likenesses(kind))
    # Each turn row on kind tells as many kept lots as the likenesses of both allow.
    return _count_like(kind, group, moves) * len(list(likenesses(group))) // len(moves)


def _check_few(group):
    if len(group) > MAX_LISTED:
        raise TooMany(MAX_LISTED)


def _check_two(one, other):
    check_group(one)
    check_group(other)
    _check_few(one)
    _check_few(other)


def _count_like(plus, kind, moves):
    # Groups with so few things are alike exactly if they have equally many of each order.
    told = order_counts(kind)
    circles = _circles(plus, moves)
    return len([circle for circle in circles if counts_of_orders(circle, plus.unit) == told])


def _circles(plus, moves):
    """The circles of all doubles on plus, ascending by their turns, which are of these moves."""
    unit = {plus.unit: tuple(range(len(plus)))}
    return _circles_with(plus, moves, {}, unit, ())


def _circles_with(plus, moves, fitting, lot, makers):
    """All circles with a lot of rows that is closed under joining, made by some of them.

    The least thing without a row gets each fitting row in turn, so the circles come in
    the order of their turns. What fits is found once for each thing.
    """
    free = [a for a in range(len(plus)) if a not in lot]
    if not free:
        return [tuple([lot[a] for a in range(len(plus))])]
    thing = free[0]
    if thing not in fitting:
        fitting[thing] = _fitting_rows(plus, moves, thing)
    choices = fitting[thing]
    found = []
    for row, powers in choices:
        if _go_together(lot, powers, len(plus)):
            further = makers + (row,)
            grown = _grown_lot(plus, lot, further) if makers else powers
            if grown is not None:
                found.extend(_circles_with(plus, moves, fitting, grown, further))
    return found


def _fitting_rows(plus, moves, thing):
    """The rows that a thing can have by itself, each with the lot of its powers."""
    found = []
    for move in moves:
        row = joined_moves(plus.rows[thing], move)
        powers = _powers_of(row, plus.unit)
        # As many rows as the powers of one of them divide all rows.
        if powers is not None and len(plus) % len(powers) == 0:
            found.append((row, powers))
    return found


def _powers_of(row, unit):
    """The lot of the powers of a row, or None if two unlike ones lead the unit to one thing."""
    idle = tuple(range(len(row)))
    powers = {unit: idle}
    here = row
    while here[unit] not in powers:
        powers[here[unit]] = here
        here = joined_moves(here, row)
    return powers if here == idle else None


def _go_together(lot, powers, most):
    """Whether two lots have equal rows for equal things, and join to few enough rows."""
    common = [row == lot[thing] for thing, row in powers.items() if thing in lot]
    return all(common) and len(lot) * len(powers) <= most * len(common)


def _grown_lot(plus, lot, makers):
    """The lot that comes of a closed lot and a last maker, or None if a thing gets two rows.

    It is made of the rows of the lot, joined with some heads, whose things are unlike.
    """
    part = list(lot.values())
    grown = {thing: move for thing, move in lot.items()}
    heads = [makers[-1]]
    reached = 0
    while reached < len(heads):
        head = heads[reached]
        reached += 1
        if head[plus.unit] in grown:
            if grown[head[plus.unit]] != head:
                return None
        else:
            for row in part:
                made = joined_moves(row, head)
                if made[plus.unit] in grown:
                    return None
                grown[made[plus.unit]] = made
            heads.extend([joined_moves(head, maker) for maker in makers])
    return grown


def _kinds(plus):
    """The circle of the least turn rows of each kind, ascending by these."""
    moves = list(likenesses(plus))
    makers = [undone_move(move) for move in _makers_of(moves)]
    seen = {}
    found = []
    for circle in _circles(plus, moves):
        if circle not in seen:
            found.append(circle)
            seen[circle] = True
            waiting = [circle]
            while waiting:
                here = waiting.pop()
                for maker in makers:
                    there = renamed_rows(here, maker)
                    if there not in seen:
                        seen[there] = True
                        waiting.append(there)
    return found


def _makers_of(moves):
    """Some of the moves of a group of moves, ascending, of which all come by joining."""
    makers = ()
    made = {moves[0]: True}
    for move in moves:
        if move not in made:
            makers = makers + (move,)
            made = {other: True for other in closure_within(len(move), makers, len(moves))}
    return makers
