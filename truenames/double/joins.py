"""Joins of doubles, and doubles that some move leads to one another."""

from truenames.checks import is_row, is_same, is_thing, is_told
from truenames.double.doubles import MAX_DOUBLE, Double, check_double
from truenames.errors import InvalidMove, Refused, TooMany
from truenames.group.groups import Group, likenesses_between
from truenames.group.moves import is_move_of, joined_moves
from truenames.group.rows import keeps_products, pair_rows, renamed_rows

MAX_LIKE_DOUBLE = 8
MAX_LIKENED_DOUBLE = 12


def join_paper(one, other, acts):
    """The first paper about acts, with the least things."""
    _check_acts(one, other, acts)
    for a, act in enumerate(acts):
        things = _broken_likeness(other, act)
        if things is not None:
            return ("likeness", a) + things
    for a in range(len(one)):
        for b in range(len(one)):
            if _breaks_joined(one, acts, a, b):
                return ("joined", a, b)
    return ("join",)


def is_join_paper(one, other, acts, value):
    """Whether the value is a right paper about acts."""
    _check_acts(one, other, acts)
    if isinstance(value, tuple) and len(value) == 4 and is_same(value[0], "likeness"):
        _, a, x, y = value
        if not is_thing(a, len(one)) or not is_row((x, y), 2, len(other)):
            return False
        return _breaks_likeness(other, acts[a], x, y)
    if is_told(value, "joined", 2, len(one)):
        return _breaks_joined(one, acts, value[1], value[2])
    return is_same(value, ("join",)) and join_paper(one, other, acts) == ("join",)


def _check_acts(one, other, acts):
    check_double(one)
    check_double(other)
    if not isinstance(acts, tuple) or len(acts) != len(one):
        raise InvalidMove("not a tuple with a move for each thing")
    if not all([is_move_of(act, len(other)) for act in acts]):
        raise InvalidMove("not a tuple of moves of the things of the second double")


def _broken_likeness(double, act):
    """The least two things whose sums an act does not lead to those of theirs, or None."""
    for x in range(len(double)):
        for y in range(len(double)):
            if _breaks_likeness(double, act, x, y):
                return (x, y)
    return None


def _breaks_likeness(double, act, x, y):
    plus, circle = double.plus.rows, double.circle.rows
    return act[plus[x][y]] != plus[act[x]][act[y]] or act[circle[x][y]] != circle[act[x]][act[y]]


def _breaks_joined(double, acts, a, b):
    return acts[double.circle.rows[a][b]] != joined_moves(acts[a], acts[b])


def join(one, other, acts):
    """The double of pairs in which the first things act on the second ones by circle."""
    paper = join_paper(one, other, acts)
    if paper != ("join",):
        raise Refused(paper)
    if len(one) * len(other) > MAX_DOUBLE:
        raise TooMany(MAX_DOUBLE)
    size = len(other)
    circle = tuple([
        tuple([made * size + further[y] for made in row for y in acts[a]])
        for a, row in enumerate(one.circle.rows)
        for further in other.circle.rows
    ])
    return Double(Group(pair_rows(one.plus.rows, other.plus.rows)), Group(circle))


def double_form(double):
    """The entries of plus, and behind them those of circle."""
    check_double(double)
    return _form(double.plus.rows, double.circle.rows)


def _form(plus, circle):
    return " ".join([str(thing) for rows in (plus, circle) for row in rows for thing in row])


def least_double(double):
    """The double with the least rows among those that are alike with a double."""
    check_double(double)
    if len(double) > MAX_LIKE_DOUBLE:
        raise TooMany(MAX_LIKE_DOUBLE)
    plus, circle = _least_rows(double)
    return Double(Group(plus), Group(circle))


def _least_rows(double):
    plus, circle = double.plus.rows, double.circle.rows
    return min([
        (renamed_rows(plus, order), renamed_rows(circle, order))
        for order in _orders_with_least_row(double.plus)
    ])


def _orders_with_least_row(plus):
    """All orders of things, the unit first, for which the next thing has the least row.

    The row is made entry by entry. A sum that has no place in the order yet gets the
    next one, which makes the least entry.
    """
    things = range(len(plus))
    orders = [(plus.unit,)]
    for place in range(1, len(plus)):
        placed = [order for order in orders if len(order) > place]
        free = [order for order in orders if len(order) == place]
        placed.extend([order + (thing,) for order in free for thing in things if thing not in order])
        entries = [_with_sum(plus.rows, order, place) for order in placed]
        least = min([entry for entry, _ in entries])
        orders = [order for entry, order in entries if entry == least]
    return orders


def _with_sum(rows, order, place):
    """The place of the sum of the thing at 1 and that at a place, and the order that has it."""
    total = rows[order[1]][order[place]]
    if total in order:
        return (order.index(total), order)
    return (len(order), order + (total,))


def like_double_paper(one, other):
    """A likeness of one to other; if there is none, the forms of both least doubles."""
    _check_likened(one, other)
    for move in _likenesses_of(one, other):
        return ("like", move)
    return ("forms",) + _least_forms(one, other)


def is_like_double_paper(one, other, value):
    """Whether the value is a right paper about the likeness of two doubles."""
    _check_likened(one, other)
    if isinstance(value, tuple) and len(value) == 2 and is_same(value[0], "like"):
        return _is_likeness(one, other, value[1])
    text, other_text = _least_forms(one, other)
    return text != other_text and is_same(value, ("forms", text, other_text))


def _check_likened(one, other):
    check_double(one)
    check_double(other)
    if max(len(one), len(other)) > MAX_LIKE_DOUBLE:
        raise TooMany(MAX_LIKE_DOUBLE)


def _least_forms(one, other):
    plus, circle = _least_rows(one)
    other_plus, other_circle = _least_rows(other)
    return (_form(plus, circle), _form(other_plus, other_circle))


def _is_likeness(one, other, value):
    if len(one) != len(other) or not is_move_of(value, len(one)):
        return False
    if not keeps_products(one.plus.rows, other.plus.rows, value):
        return False
    return keeps_products(one.circle.rows, other.circle.rows, value)


def double_likenesses(double):
    """All likenesses of a double to itself, ascending."""
    check_double(double)
    if len(double) > MAX_LIKENED_DOUBLE:
        raise TooMany(MAX_LIKENED_DOUBLE)
    yield from _likenesses_of(double, double)


def _likenesses_of(one, other):
    """All likenesses of one double to another one, ascending."""
    if len(one) == len(other):
        for move in likenesses_between(one.plus, other.plus, ()):
            if keeps_products(one.circle.rows, other.circle.rows, move):
                yield move
