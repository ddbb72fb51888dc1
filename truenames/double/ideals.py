"""Parts of doubles that the turns keep, ideals with their quotients, and rows of stars."""

from truenames.checks import check_lot
from truenames.double.doubles import Double, check_double, star_rows
from truenames.errors import Refused
from truenames.group.rows import least_part


def left_parts(double):
    """All parts of plus that each turn leads to themselves, by their sizes."""
    check_double(double)
    return tuple(_left_parts(double))


def _left_parts(double):
    """The left parts, each found by adding a thing, with all that turns make of it."""
    makers = {(double.unit,): ()}
    found = [(double.unit,)]
    reached = 0
    while reached < len(found):
        here = found[reached]
        for thing in range(len(double)):
            if thing not in here:
                further = makers[here] + tuple(sorted(set([turn[thing] for turn in double.turns])))
                part = least_part(double.plus.rows, double.unit, further)
                if part not in makers:
                    makers[part] = further
                    found.append(part)
        reached += 1
    sized = sorted([(len(lot), lot) for lot in found])
    return [lot for _, lot in sized]


def ideals(double):
    """All left parts that are whole in plus and in circle, by their sizes."""
    check_double(double)
    return tuple([part for part in _left_parts(double) if _is_whole(double, part)])


def is_left_part(double, things):
    """Whether the things are a part of plus that each turn leads to itself."""
    _check_things(double, things)
    return _is_left_part(double, things)


def is_ideal(double, things):
    """Whether the things are a left part that is whole in plus and in circle."""
    _check_things(double, things)
    return _is_ideal(double, things)


def _check_things(double, things):
    check_double(double)
    check_lot(things, len(double))


def _is_left_part(double, things):
    if least_part(double.plus.rows, double.unit, things) != things:
        return False
    return all([turn[thing] in things for turn in double.turns for thing in things])


def _is_whole(double, things):
    return double.plus.is_whole(things) and double.circle.is_whole(things)


def _is_ideal(double, things):
    return _is_left_part(double, things) and _is_whole(double, things)


def quotient_of(double, things):
    """The double of the sides of an ideal, and these sides by their least things."""
    _check_things(double, things)
    if not _is_ideal(double, things):
        raise Refused(("ideal",))
    return _quotient_of(double, things)


def _quotient_of(double, things):
    # An ideal has the same sides by both sums, so they are numbered alike.
    plus, sides = double.plus.quotient(things)
    circle, _ = double.circle.quotient(things)
    return (Double(plus, circle), sides)


def still_part(double):
    """The things with an idle turn that commute with all things in plus."""
    check_double(double)
    return _still_part(double)


def _still_part(double):
    idle = tuple(range(len(double)))
    return tuple([thing for thing in double.plus.centre if double.turns[thing] == idle])


def still_centre(double):
    """The things of the still part that commute with all things in circle, too."""
    check_double(double)
    return tuple([thing for thing in _still_part(double) if thing in double.circle.centre])


def still_levels(double):
    """The sizes of a double, of its quotient by the still part, and so on."""
    check_double(double)
    here = double
    sizes = [len(here)]
    part = _still_part(here)
    while len(part) > 1:
        here, _ = _quotient_of(here, part)
        sizes.append(len(here))
        part = _still_part(here)
    return tuple(sizes)


def starred(double, one, other):
    """The least part of plus with the stars of all things of one with all of other."""
    _check_things(double, one)
    check_lot(other, len(double))
    return _starred(double, one, other)


def _starred(double, one, other):
    rows = star_rows(double)
    stars = sorted(set([rows[a][b] for a in one for b in other]))
    return least_part(double.plus.rows, double.unit, stars)


def right_row(double):
    """The row in which the stars of each member with all things stand behind it."""
    check_double(double)
    whole = tuple(range(len(double)))
    row = [whole]
    further = _starred(double, whole, whole)
    while further != row[-1]:
        row.append(further)
        further = _starred(double, further, whole)
    return tuple(row)


def left_row(double):
    """The row in which the stars of all things with each member stand behind it."""
    check_double(double)
    whole = tuple(range(len(double)))
    row = [whole]
    further = _starred(double, whole, whole)
    while further != row[-1]:
        row.append(further)
        further = _starred(double, whole, further)
    return tuple(row)
