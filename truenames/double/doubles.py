"""Doubles: two groups on the same things, one of which turns the other one."""

from truenames.checks import check_thing, is_same, is_told
from truenames.errors import InvalidDouble, InvalidGroup, Refused, TooMany
from truenames.group.groups import Group, check_group
from truenames.group.moves import check_move_of, is_move_of, joined_moves
from truenames.group.rows import back_of, backs_of, pair_rows, renamed_rows
from truenames.table.passing import MAX_LETTERS, Passing

MAX_DOUBLE = 24


def double_paper(plus, circle):
    """The paper about two groups, with the least things that break the rule."""
    _check_groups(plus, circle)
    backs = backs_of(plus.rows, plus.unit)
    for a in range(len(plus)):
        things = _broken_rule(plus.rows, circle.rows[a], backs[a])
        if things is not None:
            return ("rule", a) + things
    return ("double",)


def is_double_paper(plus, circle, value):
    """Whether the value is a right paper about two groups."""
    _check_groups(plus, circle)
    if is_told(value, "rule", 3, len(plus)):
        _, a, b, c = value
        back = back_of(plus.rows, plus.unit, a)
        return _breaks_rule(plus.rows, circle.rows[a], back, b, c)
    return is_same(value, ("double",)) and double_paper(plus, circle) == ("double",)


def _check_groups(plus, circle):
    check_group(plus)
    check_group(circle)
    if len(circle) != len(plus):
        raise InvalidGroup("not a group with as many things")


def _broken_rule(rows, circled, back):
    """The least two things that break the rule with a thing, or None.

    The thing is told by its row of circle, and by what takes it back in plus.
    """
    for b in range(len(rows)):
        for c in range(len(rows)):
            if _breaks_rule(rows, circled, back, b, c):
                return (b, c)
    return None


def _breaks_rule(rows, circled, back, b, c):
    return circled[rows[b][c]] != rows[rows[circled[b]][back]][circled[c]]


def turns_paper(plus, turns):
    """The first paper about moves on plus, with the least things."""
    _check_turns(plus, turns)
    for a, turn in enumerate(turns):
        things = _broken_likeness(plus.rows, turn)
        if things is not None:
            return ("likeness", a) + things
    for a in range(len(plus)):
        for b in range(len(plus)):
            if _breaks_joined(plus.rows, turns, a, b):
                return ("joined", a, b)
    return ("turns",)


def is_turns_paper(plus, turns, value):
    """Whether the value is a right paper about moves on plus."""
    _check_turns(plus, turns)
    if is_told(value, "likeness", 3, len(plus)):
        _, a, b, c = value
        return _breaks_likeness(plus.rows, turns[a], b, c)
    if is_told(value, "joined", 2, len(plus)):
        _, a, b = value
        return _breaks_joined(plus.rows, turns, a, b)
    return is_same(value, ("turns",)) and turns_paper(plus, turns) == ("turns",)


def _check_turns(plus, turns):
    check_group(plus)
    if not isinstance(turns, tuple) or len(turns) != len(plus):
        raise InvalidDouble("not a tuple with a move for each thing")
    if not all([is_move_of(turn, len(plus)) for turn in turns]):
        raise InvalidDouble("not a tuple of moves of the things")


def _broken_likeness(rows, turn):
    """The least two things whose sum a turn does not lead to the sum of theirs, or None."""
    for b in range(len(rows)):
        for c in range(len(rows)):
            if _breaks_likeness(rows, turn, b, c):
                return (b, c)
    return None


def _breaks_likeness(rows, turn, b, c):
    return turn[rows[b][c]] != rows[turn[b]][turn[c]]


def _breaks_joined(rows, turns, a, b):
    return turns[rows[a][turns[a][b]]] != joined_moves(turns[a], turns[b])


def circle_of_turns(plus, turns):
    """The circle that right turns tell."""
    return Group(tuple([tuple([plus.rows[a][b] for b in turn]) for a, turn in enumerate(turns)]))


class Double:
    """Two groups on the same things that keep the rule of doubles."""

    def __init__(self, plus, circle):
        paper = double_paper(plus, circle)
        if paper != ("double",):
            raise Refused(paper)
        backs = backs_of(plus.rows, plus.unit)
        self._plus = plus
        self._circle = circle
        self._backs = backs
        self._turns = tuple([
            tuple([plus.rows[backs[a]][made] for made in row])
            for a, row in enumerate(circle.rows)
        ])

    @classmethod
    def of_turns(cls, plus, turns):
        """The double with these turns."""
        paper = turns_paper(plus, turns)
        if paper != ("turns",):
            raise Refused(paper)
        return cls(plus, circle_of_turns(plus, turns))

    @classmethod
    def both(cls, group):
        """The double in which both sums are those of a group."""
        return cls(group, group)

    @classmethod
    def about(cls, group):
        """The double in which circle is the sum of a group from behind."""
        check_group(group)
        return cls(group, Group(_rows_from_behind(group.rows)))

    @property
    def plus(self):
        """The group of the first sum."""
        return self._plus

    @property
    def circle(self):
        """The group of the second sum."""
        return self._circle

    @property
    def size(self):
        """How many things there are."""
        return len(self._turns)

    @property
    def unit(self):
        """The unit of both sums."""
        return self._plus.unit

    @property
    def turns(self):
        """The turns of the things."""
        return self._turns

    @property
    def is_plain(self):
        """Whether both sums are equal."""
        return self._plus == self._circle

    def star(self, a, b):
        """The turn of a, of b, less b."""
        check_thing(a, len(self._turns))
        check_thing(b, len(self._turns))
        return self._plus.rows[self._turns[a][b]][self._backs[b]]

    def renamed(self, order):
        """The double whose thing i is the thing order[i] of this one."""
        check_move_of(order, len(self._turns))
        plus = Group(renamed_rows(self._plus.rows, order))
        return Double(plus, Group(renamed_rows(self._circle.rows, order)))

    def __invert__(self):
        return Double(Group(_rows_from_behind(self._plus.rows)), self._circle)

    def __mul__(self, other):
        if not isinstance(other, Double):
            return NotImplemented
        if len(self._turns) * len(other._turns) > MAX_DOUBLE:
            raise TooMany(MAX_DOUBLE)
        plus = Group(pair_rows(self._plus.rows, other._plus.rows))
        return Double(plus, Group(pair_rows(self._circle.rows, other._circle.rows)))

    def __eq__(self, other):
        return isinstance(other, Double) and self._plus == other._plus and self._circle == other._circle

    def __len__(self):
        return len(self._turns)

    def __str__(self):
        return f"double of {len(self._turns)} things"


def _rows_from_behind(rows):
    return tuple([tuple([row[thing] for row in rows]) for thing in range(len(rows))])


def star_rows(double):
    """The stars of each thing with all things."""
    rows = double.plus.rows
    backs = backs_of(rows, double.unit)
    return tuple([tuple([rows[made][backs[b]] for b, made in enumerate(turn)]) for turn in double.turns])


def check_double(value):
    """Refuse what is no double."""
    if not isinstance(value, Double):
        raise InvalidDouble("not a double")


def table_of(double):
    """The table of a double, with its things as letters."""
    check_double(double)
    if len(double) > MAX_LETTERS:
        raise TooMany(MAX_LETTERS)
    rows = double.circle.rows
    backs = backs_of(rows, double.unit)
    return Passing(tuple([
        tuple([(u, rows[backs[u]][rows[a][b]]) for b, u in enumerate(turn)])
        for a, turn in enumerate(double.turns)
    ]))
