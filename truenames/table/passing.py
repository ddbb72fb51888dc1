"""Fair tables: what two letters become when they pass."""

from itertools import permutations

from truenames.checks import check_thing, check_within, is_row, is_same, is_square, is_told
from truenames.errors import InvalidMove, InvalidTable, Refused, TooMany
from truenames.group.moves import check_move_of, undone_move

MAX_LETTERS = 8
MAX_LIKENED = 6
MAX_FORMED = 5


def fair_paper(rows):
    """The first right paper about the rows of a table, with the least letters."""
    _check_rows(rows)
    return ("fair",) if are_fair_rows(rows) else _broken_paper(rows)


def _broken_paper(rows):
    """The first right paper about rows that are not fair."""
    threes = _threes(len(rows))
    for word in ("left", "right", "three"):
        for letters in threes:
            if _breaks_fair(rows, word, letters):
                return (word,) + letters


def is_fair_paper(rows, value):
    """Whether the value is a right paper about the rows of a table."""
    _check_rows(rows)
    for word in ("left", "right", "three"):
        if is_told(value, word, 3, len(rows)):
            return _breaks_fair(rows, word, value[1:])
    return is_same(value, ("fair",)) and are_fair_rows(rows)


def _check_rows(rows):
    if not _is_table_rows(rows):
        raise InvalidTable("not 0 to 8 rows of as many pairs of letters")


def _is_table_rows(value):
    if not isinstance(value, tuple) or len(value) > MAX_LETTERS:
        return False
    return all([_is_pairs(row, len(value)) for row in value])


def _is_pairs(value, size):
    if not isinstance(value, tuple) or len(value) != size:
        return False
    return all([is_row(pair, 2, size) for pair in value])


def are_fair_rows(rows):
    """Whether no letters break a table: this is quicker to see than which ones do."""
    for x, row in enumerate(rows):
        lefts = [pair[0] for pair in row]
        rights = [other[x][1] for other in rows]
        if len(set(lefts)) < len(rows) or len(set(rights)) < len(rows):
            return False
    for x, row in enumerate(rows):
        for y, (left, middle) in enumerate(row):
            if not _pass_alike(rows, row, rows[y], rows[left], rows[middle]):
                return False
    return True


def _pass_alike(rows, row, further, left_row, middle_row):
    """Whether two letters and any third one become the same, whichever two pass first.

    The rows are those of both letters, then those of what both become.
    """
    for z, (middle, right) in enumerate(middle_row):
        other_middle, other_right = further[z]
        other_left, other_middle = row[other_middle]
        if left_row[middle] + (right,) != (other_left,) + rows[other_middle][other_right]:
            return False
    return True


def _threes(size):
    letters = range(size)
    return [(x, y, z) for x in letters for y in letters for z in letters]


def _breaks_fair(rows, word, letters):
    x, y, z = letters
    if word == "left":
        return y < z and rows[x][y][0] == rows[x][z][0]
    if word == "right":
        return y < z and rows[y][x][1] == rows[z][x][1]
    return _passed_left_first(rows, x, y, z) != _passed_right_first(rows, x, y, z)


def _passed_left_first(rows, x, y, z):
    """What three letters become by passing at the places 0, 1 and 0."""
    left, middle = rows[x][y]
    middle, right = rows[middle][z]
    left, middle = rows[left][middle]
    return (left, middle, right)


def _passed_right_first(rows, x, y, z):
    """What three letters become by passing at the places 1, 0 and 1."""
    middle, right = rows[y][z]
    left, middle = rows[x][middle]
    middle, right = rows[middle][right]
    return (left, middle, right)


def dots_paper(dots):
    """The first right paper about dots, with the least letters."""
    _check_dots(dots)
    threes = _threes(len(dots))
    for word in ("row", "three"):
        for letters in threes:
            if _breaks_dots(dots, word, letters):
                return (word,) + letters
    return ("dots",)


def is_dots_paper(dots, value):
    """Whether the value is a right paper about dots."""
    _check_dots(dots)
    for word in ("row", "three"):
        if is_told(value, word, 3, len(dots)):
            return _breaks_dots(dots, word, value[1:])
    return is_same(value, ("dots",)) and dots_paper(dots) == ("dots",)


def _check_dots(dots):
    if not is_square(dots, 0, MAX_LETTERS):
        raise InvalidTable("not 0 to 8 rows of as many letters")


def _breaks_dots(dots, word, letters):
    x, y, z = letters
    if word == "row":
        return y < z and dots[x][y] == dots[x][z]
    return dots[dots[x][y]][dots[x][z]] != dots[dots[y][x]][dots[y][z]]


def _told_by_dots(dots):
    """The rows of the quiet table with these dots, refused if there is none."""
    paper = dots_paper(dots)
    if paper != ("dots",):
        raise Refused(paper)
    left = [undone_move(row) for row in dots]
    return tuple([tuple([(u, dots[u][x]) for u in row]) for x, row in enumerate(left)])


class Passing:
    """A fair table on the letters from 0 to one less than its size."""

    def __init__(self, rows):
        paper = fair_paper(rows)
        if paper != ("fair",):
            raise Refused(paper)
        letters = range(len(rows))
        self._rows = rows
        self._left = tuple([tuple([pair[0] for pair in row]) for row in rows])
        self._right = tuple([tuple([row[y][1] for row in rows]) for y in letters])
        self._quiet = _passes_twice_unchanged(rows)

    @classmethod
    def unmoved(cls, size):
        """The table in which letters pass without change."""
        check_within(size, 0, MAX_LETTERS)
        return cls(tuple([tuple([(y, x) for y in range(size)]) for x in range(size)]))

    @classmethod
    def of_left(cls, left):
        """The quiet table with these moves L."""
        if not isinstance(left, tuple) or len(left) > MAX_LETTERS:
            raise InvalidMove("not 0 to 8 moves")
        for move in left:
            check_move_of(move, len(left))
        return cls(_told_by_dots(tuple([undone_move(move) for move in left])))

    @classmethod
    def of_dots(cls, dots):
        """The quiet table with these dots."""
        return cls(_told_by_dots(dots))

    @classmethod
    def of_pair(cls, one, other):
        """The table in which the letter that goes left is moved by one, the other by other."""
        if not isinstance(one, tuple) or len(one) > MAX_LETTERS:
            raise InvalidMove("not a move of 0 to 8 letters")
        check_move_of(one, len(one))
        check_move_of(other, len(one))
        for x in range(len(one)):
            if one[other[x]] != other[one[x]]:
                raise Refused(("order", x))
        return cls(tuple([tuple([(goal, back) for goal in one]) for back in other]))

    @property
    def size(self):
        """How many letters there are."""
        return len(self._rows)

    @property
    def rows(self):
        """What each two letters become."""
        return self._rows

    @property
    def left(self):
        """The moves L of the letters."""
        return self._left

    @property
    def right(self):
        """The moves R of the letters."""
        return self._right

    @property
    def is_quiet(self):
        """Whether each pair that passes twice is as it was."""
        return self._quiet

    def passed(self, one, other):
        """What two letters become."""
        check_thing(one, len(self._rows))
        check_thing(other, len(self._rows))
        return self._rows[one][other]

    def passed_back(self):
        """The fair table in which pairs pass back."""
        sources = {}
        for x, row in enumerate(self._rows):
            for y, pair in enumerate(row):
                sources[pair] = (x, y)
        letters = range(len(self._rows))
        return Passing(tuple([tuple([sources[(u, v)] for v in letters]) for u in letters]))

    def mirrored(self):
        """The fair table of the same passings, seen from behind."""
        rows = self._rows
        letters = range(len(rows))
        return Passing(tuple([
            tuple([(rows[y][x][1], rows[y][x][0]) for y in letters])
            for x in letters
        ]))

    def renamed(self, order):
        """The table whose letter i is the letter order[i] of this one."""
        check_move_of(order, len(self._rows))
        return Passing(renamed_table_rows(self._rows, order))

    def __mul__(self, other):
        if not isinstance(other, Passing):
            return NotImplemented
        if len(self._rows) * len(other._rows) > MAX_LETTERS:
            raise TooMany(MAX_LETTERS)
        return Passing(_pair_rows(self._rows, other._rows))

    def __eq__(self, other):
        return isinstance(other, Passing) and self._rows == other._rows

    def __len__(self):
        return len(self._rows)

    def __str__(self):
        if self._quiet:
            return f"quiet table of {len(self._rows)} letters"
        return f"fair table of {len(self._rows)} letters"


def check_table(value):
    """Refuse what is no fair table."""
    if not isinstance(value, Passing):
        raise InvalidTable("not a table")


def check_quiet(table):
    """Refuse a table that is not quiet."""
    if not table.is_quiet:
        raise Refused(("quiet",))


def table_of_left(left):
    """The quiet table with these moves L; refused if there is none."""
    return Passing(_told_by_dots(tuple([undone_move(move) for move in left])))


def _passes_twice_unchanged(rows):
    for x, row in enumerate(rows):
        for y, pair in enumerate(row):
            if rows[pair[0]][pair[1]] != (x, y):
                return False
    return True


def renamed_table_rows(rows, order):
    """The rows of the table whose letter i is the letter order[i] of this one."""
    names = undone_move(order)
    return tuple([
        tuple([(names[rows[x][y][0]], names[rows[x][y][1]]) for y in order])
        for x in order
    ])


def _pair_rows(rows, others):
    size = len(others)
    return tuple([
        tuple([
            (pair[0] * size + other[0], pair[1] * size + other[1])
            for pair in row
            for other in other_row
        ])
        for row in rows
        for other_row in others
    ])


def dots_of(table):
    """The dots of a quiet table."""
    check_table(table)
    check_quiet(table)
    return tuple([undone_move(move) for move in table.left])


def likenesses_of(table):
    """All likenesses of a table to itself, ascending."""
    check_table(table)
    if len(table) > MAX_LIKENED:
        raise TooMany(MAX_LIKENED)
    yield from _orders_that_keep(table.rows)


def _orders_that_keep(rows):
    # The permutations come ascending, and names that change no row are likenesses.
    return [
        order
        for order in permutations(range(len(rows)))
        if renamed_table_rows(rows, order) == rows
    ]


def form_of(table):
    """The size, and behind it the digits of what all pairs become."""
    check_table(table)
    return _form(table.rows)


def least_form(table):
    """The first form, in Python's order, of all tables of this kind."""
    check_table(table)
    if len(table) > MAX_FORMED:
        raise TooMany(MAX_FORMED)
    return min([
        _form(renamed_table_rows(table.rows, order))
        for order in permutations(range(len(table)))
    ])


def _form(rows):
    digits = "".join([f"{pair[0]}{pair[1]}" for row in rows for pair in row])
    return f"{len(rows)} {digits}"
