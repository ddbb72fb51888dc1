"""Tables that doubles make by things and the parts that keep them, and lists of small tables."""

from itertools import permutations

from truenames.checks import check_thing, check_within, is_lot, is_same, is_thing, is_told
from truenames.double.doubles import check_double
from truenames.double.own import own_double, own_moves
from truenames.errors import InvalidOperation, Refused, TooMany
from truenames.group.moves import orbits
from truenames.group.rows import backs_of, least_part
from truenames.table.passing import MAX_LETTERS, Passing, renamed_table_rows, table_of_left
from truenames.table.small import fair_table_rows, quiet_table_rows

MAX_CHOICES = 8
MAX_QUIET = 4
MAX_FAIR = 3


def stills(double, thing):
    """The things whose turns leave a thing."""
    check_double(double)
    check_thing(thing, len(double))
    _check_plus(double)
    return tuple([b for b, turn in enumerate(double.turns) if turn[thing] == thing])


def _check_plus(double):
    if not double.plus.is_commutative:
        raise Refused(("plus",))


def _check_choices(double, choices):
    check_double(double)
    if not isinstance(choices, tuple) or len(choices) > MAX_CHOICES:
        raise InvalidOperation("not a tuple of few enough choices")
    if not all([_is_choice(double, choice) for choice in choices]):
        raise InvalidOperation("not a thing and a part of circle that leaves it")
    _check_plus(double)


def _is_choice(double, value):
    if not isinstance(value, tuple) or len(value) != 2:
        return False
    thing, part = value
    if not is_thing(thing, len(double)) or not is_lot(part, len(double)):
        return False
    if least_part(double.circle.rows, double.unit, part) != part:
        return False
    return all([double.turns[b][thing] == thing for b in part])


def choices_paper(double, choices):
    """Whether choices make a table with this own double, or what stands against it."""
    _check_choices(double, choices)
    things = least_part(double.plus.rows, double.unit, _turned_things(double, choices))
    if len(things) < len(double):
        return ("lack", things)
    for thing in _core(double, choices):
        if thing != double.unit:
            return ("core", thing)
    return ("own",)


def is_choices_paper(double, choices, value):
    """Whether the value is a right paper about choices."""
    _check_choices(double, choices)
    if is_told(value, "core", 1, len(double)):
        return value[1] != double.unit and value[1] in _core(double, choices)
    if isinstance(value, tuple) and len(value) == 2 and is_same(value[0], "lack"):
        return _is_lack(double, choices, value[1])
    return is_same(value, ("own",)) and choices_paper(double, choices) == ("own",)


def _is_lack(double, choices, value):
    if not is_lot(value, len(double)) or len(value) == len(double):
        return False
    if least_part(double.plus.rows, double.unit, value) != value:
        return False
    return all([thing in value for thing in _turned_things(double, choices)])


def _turned_things(double, choices):
    return [turn[choice[0]] for choice in choices for turn in double.turns]


def _core(double, choices):
    """The things that are in all b o k o c, c taking b back, for each K of the choices."""
    rows = double.circle.rows
    backs = backs_of(rows, double.unit)
    found = []
    for thing in range(len(double)):
        led = [rows[rows[back][thing]][b] for b, back in enumerate(backs)]
        if all([one in choice[1] for choice in choices for one in led]):
            found.append(thing)
    return found


def made(double, choices):
    """The table that choices make."""
    _check_choices(double, choices)
    rows = double.circle.rows
    letters = [
        (index, side)
        for index, choice in enumerate(choices)
        for side in _sides(rows, choice[1])
    ]
    if len(letters) > MAX_LETTERS:
        raise TooMany(MAX_LETTERS)
    numbers = {
        (told[0], thing): letter
        for letter, told in enumerate(letters)
        for thing in told[1]
    }
    # The side of b, of a choice (a, K), does what the turn of b, of a, does by circle.
    doers = [double.turns[side[0]][choices[index][0]] for index, side in letters]
    return table_of_left(tuple([
        tuple([numbers[(index, rows[doer][side[0]])] for index, side in letters])
        for doer in doers
    ]))


def _sides(rows, part):
    """The sides of a part, by their least things."""
    sides = [tuple(sorted([row[thing] for thing in part])) for row in rows]
    return sorted(set(sides))


def choices_of(table):
    """The choices of the own double of a table that make it, one for each orbit."""
    _, names = own_double(table)
    moves = own_moves(table)
    return tuple([
        (names[orbit[0]], tuple([b for b, move in enumerate(moves) if move[orbit[0]] == orbit[0]]))
        for orbit in orbits(len(table), table.left)
    ])


def all_quiet(size):
    """All quiet tables of a size, ascending by their rows."""
    check_within(size, 0, MAX_QUIET)
    for rows in quiet_table_rows(size):
        yield Passing(rows)


def all_fair(size):
    """All fair tables of a size, ascending by their rows."""
    check_within(size, 0, MAX_FAIR)
    for rows in fair_table_rows(size):
        yield Passing(rows)


def quiet_kinds(size):
    """One quiet table of each kind of a size, ascending by their rows."""
    check_within(size, 0, MAX_QUIET)
    orders = list(permutations(range(size)))
    found = []
    seen = {}
    for rows in quiet_table_rows(size):
        if rows not in seen:
            found.append(Passing(rows))
            for order in orders:
                seen[renamed_table_rows(rows, order)] = True
    return tuple(found)
