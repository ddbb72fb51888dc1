"""Parts of quiet tables, and letters that are drawn together until one stands."""

from truenames.checks import check_lot, is_lot, is_row, is_same
from truenames.errors import Refused, TooMany
from truenames.group.moves import check_move_of, orbits, way
from truenames.table.passing import MAX_LETTERS, Passing, check_quiet, check_table, table_of_left

# The most letters of a way.
MAX_WAY = 200


def falls_paper(table):
    """Two kept lots that part the letters, or ways from the first letter to all."""
    check_table(table)
    check_quiet(table)
    letters = range(len(table))
    parts = orbits(len(table), table.left)
    if len(parts) > 1:
        return ("parts", parts[0], tuple([letter for letter in letters if letter not in parts[0]]))
    return ("ways", tuple([way(len(table), table.left, 0, letter) for letter in letters]))


def is_falls_paper(table, value):
    """Whether the value is a right paper about whether a table falls."""
    check_table(table)
    check_quiet(table)
    if not isinstance(value, tuple) or len(value) == 0:
        return False
    if is_same(value[0], "ways") and len(value) == 2:
        return _are_ways(table, value[1])
    if is_same(value[0], "parts") and len(value) == 3:
        return _part_letters(table, value[1], value[2])
    return False


def _are_ways(table, value):
    if not isinstance(value, tuple) or len(value) != len(table):
        return False
    return all([_is_way_to(table, letter, letters) for letter, letters in enumerate(value)])


def _is_way_to(table, goal, value):
    if not isinstance(value, tuple) or len(value) > MAX_WAY:
        return False
    if not is_row(value, len(value), len(table)):
        return False
    here = 0
    for letter in value:
        here = table.left[letter][here]
    return here == goal


def _part_letters(table, one, other):
    """Whether two kept lots, none of them empty, have each letter just once together."""
    if not is_lot(one, len(table)) or not is_lot(other, len(table)):
        return False
    if len(one) == 0 or len(other) == 0 or sorted(one + other) != list(range(len(table))):
        return False
    return _pair_that_leaves(table, one) is None and _pair_that_leaves(table, other) is None


def _pair_that_leaves(table, letters):
    """The least pair of letters of a lot that do not become letters of it, or None."""
    for x in letters:
        for y in letters:
            u, v = table.rows[x][y]
            if u not in letters or v not in letters:
                return (x, y)
    return None


def letter_parts(table):
    """The greatest lots in which a way leads from each letter to each one."""
    check_table(table)
    check_quiet(table)
    return orbits(len(table), table.left)


def is_kept_lot(table, letters):
    """Whether the letters of a lot become letters of it when they pass."""
    _check_letters(table, letters)
    return _pair_that_leaves(table, letters) is None


def part_table(table, letters):
    """The table of a kept lot, whose letters are numbered anew."""
    _check_letters(table, letters)
    pair = _pair_that_leaves(table, letters)
    if pair is not None:
        raise Refused(("kept",) + pair)
    numbers = {letter: index for index, letter in enumerate(letters)}
    return _numbered_table(table, letters, numbers)


def _check_letters(table, letters):
    check_table(table)
    check_lot(letters, len(table))
    check_quiet(table)


def _numbered_table(table, letters, numbers):
    """The table of some letters, in which each letter has the told number."""
    pairs = [[table.rows[x][y] for y in letters] for x in letters]
    return Passing(tuple([tuple([(numbers[u], numbers[v]) for u, v in row]) for row in pairs]))


def drawn(table):
    """The table in which letters with equal L are one, and the classes of all letters."""
    check_table(table)
    check_quiet(table)
    return _drawn(table)


def _drawn(table):
    leasts = [letter for letter, move in enumerate(table.left) if move not in table.left[:letter]]
    moves = [table.left[letter] for letter in leasts]
    classes = tuple([moves.index(move) for move in table.left])
    return (_numbered_table(table, leasts, classes), classes)


def levels(table):
    """The sizes of a table that is drawn as long as it becomes smaller."""
    check_table(table)
    check_quiet(table)
    return _levels(table)


def _levels(table):
    sizes = [len(table)]
    further, _ = _drawn(table)
    while len(further) < sizes[-1]:
        sizes.append(len(further))
        further, _ = _drawn(further)
    return tuple(sizes)


def level(table):
    """How often a table is drawn until at most one letter is left, or None."""
    check_table(table)
    check_quiet(table)
    sizes = _levels(table)
    return len(sizes) - 1 if sizes[-1] <= 1 else None


def bent_union(one, other, first, second):
    """Two tables beside one another, each of which moves the letters of the other one."""
    check_table(one)
    check_table(other)
    check_move_of(first, len(other))
    check_move_of(second, len(one))
    check_quiet(one)
    check_quiet(other)
    if other.renamed(first) != other:
        raise Refused(("first",))
    if one.renamed(second) != one:
        raise Refused(("second",))
    size = len(one)
    if size + len(other) > MAX_LETTERS:
        raise TooMany(MAX_LETTERS)
    ahead = [move + tuple([size + letter for letter in first]) for move in one.left]
    behind = [second + tuple([size + letter for letter in move]) for move in other.left]
    return table_of_left(tuple(ahead + behind))
