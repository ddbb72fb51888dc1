"""The rows of all small tables: begun with some moves, as long as these keep the rules."""

from itertools import permutations

from truenames.group.moves import joined_moves, undone_move
from truenames.group.rows import move_rows
from truenames.table.passing import are_fair_rows


def quiet_table_rows(size):
    """The rows of all quiet tables of a size, ascending."""
    moves = list(permutations(range(size)))
    # Rows of dots are told by the numbers of their moves: so they are joined at once.
    joins = move_rows(moves)
    begun = [()]
    for _ in range(size):
        begun = [dots + (row,) for dots in begun for row in _next_rows(moves, joins, dots)]
    undones = [undone_move(move) for move in moves]
    return sorted([_rows_of_dots(moves, undones, dots) for dots in begun])


def _rows_of_dots(moves, undones, dots):
    return tuple([
        tuple([(u, moves[dots[u]][x]) for u in undones[row]])
        for x, row in enumerate(dots)
    ])


def _next_rows(moves, joins, dots):
    """The numbers of the moves that can be the next row of dots.

    The rule says for two letters x and y that the rows of x . y and x, joined, are
    those of y . x and y. What the rows ahead say of the next one comes first: mostly
    it leaves just one.
    """
    letter = len(dots)
    used = [moves[row][x] for x, row in enumerate(dots)]
    wanted = [row for row, move in enumerate(moves) if move[letter] not in used]
    for x, row in enumerate(dots):
        for y in range(x):
            ends = (moves[row][y], moves[dots[y]][x])
            if max(ends) == letter:
                further = (row, dots[y])
                wanted = [new for new in wanted if _join_alike(joins, dots + (new,), ends, further)]
    return [row for row in wanted if _fits(moves, joins, dots + (row,))]


def _join_alike(joins, dots, ends, rows):
    return joins[dots[ends[0]]][rows[0]] == joins[dots[ends[1]]][rows[1]]


def _fits(moves, joins, dots):
    """Whether the last row of dots keeps the rule with those ahead, as far as they tell it."""
    last = len(dots) - 1
    for y in range(last):
        ends = (moves[dots[last]][y], moves[dots[y]][last])
        if max(ends) <= last and not _join_alike(joins, dots, ends, (dots[last], dots[y])):
            return False
    return True


def fair_table_rows(size):
    """The rows of all fair tables of a size, ascending."""
    moves = list(permutations(range(size)))
    found = []
    for left in _tuples_of(moves, size):
        for right in _rights_for(moves, left):
            rows = _rows_of(left, right)
            if are_fair_rows(rows):
                found.append(rows)
    return sorted(found)


def _tuples_of(moves, many):
    tuples = [()]
    for _ in range(many):
        tuples = [row + (move,) for row in tuples for move in moves]
    return tuples


def _rights_for(moves, left):
    """All tuples of moves R with which the moves L keep their rule.

    If x and y become u and v, then L of x and y, joined, are those of u and v. So L
    tells with which L the letter v can be.
    """
    undones = [undone_move(move) for move in left]
    wanted = [
        [joined_moves(undones[move[y]], joined_moves(move, left[y])) for move in left]
        for y in range(len(left))
    ]
    fitting = [
        [right for right in moves if all([left[v] == row[x] for x, v in enumerate(right)])]
        for row in wanted
    ]
    rights = [()]
    for row in fitting:
        rights = [right + (move,) for right in rights for move in row]
    return rights


def _rows_of(left, right):
    return tuple([
        tuple([(move[y], right[y][x]) for y in range(len(left))])
        for x, move in enumerate(left)
    ])
