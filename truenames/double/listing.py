"""All doubles on one plus: their turn rows, and their kinds."""

from truenames.double.doubles import Double, circle_of_turns
from truenames.errors import TooMany
from truenames.group.groups import check_group, likenesses, order_counts
from truenames.group.moves import joined_moves, undone_move

MAX_LISTED = 8


def turn_rows(plus):
    """All turn rows on plus, ascending."""
    check_group(plus)
    _check_few(plus)
    yield from _all_turn_rows(plus)


def doubles_on(plus):
    """One double of each kind on plus, ascending by their turn rows."""
    check_group(plus)
    _check_few(plus)
    for turns in _kinds(plus):
        yield Double(plus, circle_of_turns(plus, turns))


def kind_count(plus):
    """The number of kinds of doubles on plus."""
    check_group(plus)
    _check_few(plus)
    return len(_kinds(plus))


def turns_like(plus, kind):
    """The number of turn rows on plus whose circle is alike with a group."""
    _check_two(plus, kind)
    if len(plus) != len(kind):
        return 0
    return _count_like(plus, kind)


def kept_lots(group, kind):
    """The number of lots of moves, alike with kind, that a group keeps."""
    _check_two(group, kind)
    if len(group) != len(kind):
        return 0
    # Each turn row on kind tells as many kept lots as the likenesses of both allow.
    return _count_like(kind, group) * len(list(likenesses(group))) // len(list(likenesses(kind)))


def _check_few(group):
    if len(group) > MAX_LISTED:
        raise TooMany(MAX_LISTED)


def _check_two(one, other):
    check_group(one)
    check_group(other)
    _check_few(one)
    _check_few(other)


def _count_like(plus, kind):
    # Groups with so few things are alike exactly if they have equally many of each order.
    told = order_counts(kind)
    circles = [circle_of_turns(plus, turns) for turns in _all_turn_rows(plus)]
    return len([circle for circle in circles if order_counts(circle) == told])


def _all_turn_rows(plus):
    return _turn_rows_with(plus, list(likenesses(plus)), ())


def _turn_rows_with(plus, moves, makers):
    """All turn rows, ascending, in which things have the told turns.

    Makers are pairs of a thing and its turn. The least thing whose turn they do
    not tell gets each move in turn, so the rows come in their order.
    """
    turns = _turns_made(plus, makers)
    if turns is None:
        return []
    free = [thing for thing in range(len(plus)) if thing not in turns]
    if not free:
        return [tuple([turns[thing] for thing in range(len(plus))])]
    found = []
    for move in moves:
        found.extend(_turn_rows_with(plus, moves, makers + ((free[0], move),)))
    return found


def _turns_made(plus, makers):
    """The turns that makers tell for all that they make, or None if two are unlike."""
    turns = {plus.unit: tuple(range(len(plus)))}
    found = [plus.unit]
    reached = 0
    while reached < len(found):
        a = found[reached]
        for b, turn in makers:
            made = plus.rows[a][turns[a][b]]
            made_turn = joined_moves(turns[a], turn)
            if made not in turns:
                turns[made] = made_turn
                found.append(made)
            elif turns[made] != made_turn:
                return None
        reached += 1
    return turns


def _kinds(plus):
    """The least turn rows of each kind, ascending."""
    moves = list(likenesses(plus))
    seen = {}
    found = []
    for turns in _all_turn_rows(plus):
        if turns not in seen:
            found.append(turns)
            for move in moves:
                seen[_led_by(turns, move)] = True
    return found


def _led_by(turns, move):
    """The turn rows of the double to which a likeness of plus leads that of these."""
    back = undone_move(move)
    return tuple([joined_moves(move, joined_moves(turns[a], back)) for a in back])
