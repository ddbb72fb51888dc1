"""Doubles that products of rings tell, and doubles with both sums either way round."""

from math import gcd

from truenames.checks import check_within, is_row, is_same, is_told
from truenames.double.doubles import Double, check_double, star_rows
from truenames.errors import InvalidRing, Refused
from truenames.group.groups import Group, check_group
from truenames.group.moves import joined_moves
from truenames.group.rows import backs_of, cyclic_rows

MAX_MULTIPLES = 24


def ring_paper(double):
    """The first ring paper of a double, with the least things."""
    check_double(double)
    rows = double.plus.rows
    for a, row in enumerate(rows):
        for b, made in enumerate(row):
            if made != rows[b][a]:
                return ("plus", a, b)
    things = _broken_adds(rows, star_rows(double))
    return ("ring",) if things is None else ("adds",) + things


def is_ring_paper(double, value):
    """Whether the value is a right ring paper of a double."""
    check_double(double)
    rows = double.plus.rows
    if is_told(value, "plus", 2, len(double)):
        _, a, b = value
        return rows[a][b] != rows[b][a]
    if is_told(value, "adds", 3, len(double)):
        _, a, b, c = value
        stars = star_rows(double)
        return double.plus.is_commutative and stars[rows[a][b]][c] != rows[stars[a][c]][stars[b][c]]
    return is_same(value, ("ring",)) and ring_paper(double) == ("ring",)


def _broken_adds(rows, product):
    """The least things for which (a + b) * c is not a * c + b * c, or None."""
    for a, row in enumerate(rows):
        for b, made in enumerate(row):
            sums = _sums(rows, product[a], product[b])
            if product[made] != sums:
                return (a, b, _first_unlike(product[made], sums))
    return None


def _sums(rows, one, other):
    return tuple([rows[thing][other[index]] for index, thing in enumerate(one)])


def _first_unlike(one, other):
    return min([index for index, thing in enumerate(one) if thing != other[index]])


def double_of_ring(plus, product):
    """The double of a ring product."""
    check_group(plus)
    if not _is_table(product, len(plus)) or not plus.is_commutative:
        raise InvalidRing("not a product on a commutative plus")
    if not _is_ring_product(plus.rows, product):
        raise InvalidRing("not a ring product")
    rows = tuple([_sums(plus.rows, row, product[a]) for a, row in enumerate(plus.rows)])
    for a, row in enumerate(rows):
        if plus.unit not in row:
            raise Refused(("back", a))
    return Double(plus, Group(rows))


def _is_table(value, size):
    if not isinstance(value, tuple) or len(value) != size:
        return False
    return all([is_row(row, size, size) for row in value])


def _is_ring_product(rows, product):
    """Whether a product on the rows of a commutative plus keeps the three rules."""
    if _broken_adds(rows, product) is not None:
        return False
    for one in product:
        for b, made in enumerate(one):
            if joined_moves(one, rows[b]) != joined_moves(rows[made], one):
                return False
            if product[made] != joined_moves(one, product[b]):
                return False
    return True


def multiples(size, step):
    """The double of sums modulo the size, and of a + b + step * a * b."""
    check_within(size, 1, MAX_MULTIPLES)
    check_within(step, 0, size - 1)
    for a in range(size):
        if gcd(1 + step * a, size) > 1:
            raise Refused(("back", a))
    things = range(size)
    rows = tuple([tuple([(a + b + step * a * b) % size for b in things]) for a in things])
    return Double(Group(cyclic_rows(size)), Group(rows))


def both_ways_paper(double):
    """The first both ways paper of a double, with the least things."""
    check_double(double)
    backs = backs_of(double.circle.rows, double.unit)
    for a in range(len(double)):
        for b in range(len(double)):
            one, other = _both_sides(double, a, b, backs[a])
            if one != other:
                return ("apart", a, b, _first_unlike(one, other))
    return ("both",)


def _both_sides(double, a, b, back):
    """For each thing c what a + (b o c) is, and what (a + b) o a' o (a + c) is."""
    plus, circle = double.plus.rows, double.circle.rows
    return (joined_moves(plus[a], circle[b]), joined_moves(circle[circle[plus[a][b]][back]], plus[a]))


def is_both_ways_paper(double, value):
    """Whether the value is a right both ways paper of a double."""
    check_double(double)
    if is_told(value, "apart", 3, len(double)):
        _, a, b, c = value
        one, other = _both_sides(double, a, b, backs_of(double.circle.rows, double.unit)[a])
        return one[c] != other[c]
    return is_same(value, ("both",)) and both_ways_paper(double) == ("both",)


def swapped(double):
    """The double with circle as plus and plus as circle."""
    paper = both_ways_paper(double)
    if paper != ("both",):
        raise Refused(paper)
    return Double(double.circle, double.plus)
