"""Finite groups of up to 24 things, and their likenesses."""

from truenames.checks import check_integer, check_lot, check_thing, check_within
from truenames.checks import is_same, is_square, is_told
from truenames.errors import InvalidGroup, InvalidOperation, Refused, TooMany
from truenames.group.moves import check_makers, closure_within, is_move_of
from truenames.group.rows import back_of, backs_of, broken_three, centre_of, least_part, order_in
from truenames.group.rows import cyclic_rows, keeps_products, move_rows, pair_rows, polygon_rows
from truenames.group.rows import quaternion_rows, unit_of

MAX_GROUP = 24
MAX_LIKE = 12
MAX_ALL = 8


def group_paper(rows):
    """The paper of the first broken rule, with the least things."""
    _check_rows(rows)
    unit = unit_of(rows)
    if unit is None:
        return ("unit",)
    for thing in range(len(rows)):
        if back_of(rows, unit, thing) is None:
            return ("back", thing)
    things = broken_three(rows)
    if things is not None:
        return ("three",) + things
    return ("group",)


def is_group_paper(rows, value):
    """Whether the value is a right paper about the rows."""
    _check_rows(rows)
    if is_told(value, "three", 3, len(rows)):
        _, a, b, c = value
        return rows[rows[a][b]][c] != rows[a][rows[b][c]]
    unit = unit_of(rows)
    if is_told(value, "back", 1, len(rows)):
        return unit is not None and back_of(rows, unit, value[1]) is None
    if is_same(value, ("unit",)):
        return unit is None
    return is_same(value, ("group",)) and group_paper(rows) == ("group",)


def _check_rows(rows):
    if not is_square(rows, 1, MAX_GROUP):
        raise InvalidGroup("not 1 to 24 rows of as many things")


class Group:
    """A group on the things from 0 to one less than its size."""

    def __init__(self, rows):
        paper = group_paper(rows)
        if paper != ("group",):
            raise Refused(paper)
        unit = unit_of(rows)
        self._rows = rows
        self._unit = unit
        self._backs = backs_of(rows, unit)
        self._centre = centre_of(rows)

    @classmethod
    def cyclic(cls, size):
        """The group in which things are added modulo the size."""
        check_within(size, 1, MAX_GROUP)
        return cls(cyclic_rows(size))

    @classmethod
    def polygon(cls, size):
        """The group of twice so many things that turns and mirrors a polygon."""
        check_within(size, 1, MAX_GROUP // 2)
        return cls(polygon_rows(size))

    @classmethod
    def quaternions(cls):
        """The group of 1, i, j, k, each with its negative behind it."""
        return cls(quaternion_rows())

    @classmethod
    def of_moves(cls, size, makers):
        """The group whose things are the moves of a closure, ascending."""
        check_makers(size, makers)
        return cls(move_rows(closure_within(size, makers, MAX_GROUP)))

    @property
    def rows(self):
        """The rows of the products."""
        return self._rows

    @property
    def size(self):
        """How many things there are."""
        return len(self._rows)

    @property
    def unit(self):
        """The thing that changes nothing."""
        return self._unit

    @property
    def is_commutative(self):
        """Whether all products are the same either way round."""
        return len(self._centre) == len(self._rows)

    @property
    def centre(self):
        """The things whose products with all things are the same either way round."""
        return self._centre

    def times(self, a, b):
        """The product of two things."""
        check_thing(a, len(self._rows))
        check_thing(b, len(self._rows))
        return self._rows[a][b]

    def back(self, a):
        """The thing that takes a thing back."""
        check_thing(a, len(self._rows))
        return self._backs[a]

    def order_of(self, a):
        """The least power above 0 of a thing that is the unit."""
        check_thing(a, len(self._rows))
        return order_in(self._rows, self._unit, a)

    def raised(self, a, many):
        """The power of a thing with an integer of any sign."""
        check_thing(a, len(self._rows))
        check_integer(many)
        power = self._unit
        for _ in range(many % order_in(self._rows, self._unit, a)):
            power = self._rows[power][a]
        return power

    def closure(self, things):
        """The least part with these things."""
        check_lot(things, len(self._rows))
        return least_part(self._rows, self._unit, things)

    def parts(self):
        """All parts, ascending."""
        found = [(self._unit,)]
        seen = {found[0]: True}
        reached = 0
        while reached < len(found):
            for thing in range(len(self._rows)):
                part = least_part(self._rows, self._unit, found[reached] + (thing,))
                if part not in seen:
                    seen[part] = True
                    found.append(part)
            reached += 1
        return tuple(sorted(found))

    def is_whole(self, things):
        """Whether the things are a whole part."""
        check_lot(things, len(self._rows))
        if least_part(self._rows, self._unit, things) != things:
            return False
        for thing, row in enumerate(self._rows):
            for member in things:
                if self._rows[row[member]][self._backs[thing]] not in things:
                    return False
        return True

    def quotient(self, things):
        """The group of the sides of a whole part, and these sides."""
        if not self.is_whole(things):
            raise InvalidOperation("not a whole part")
        sides = []
        numbers = {}
        for thing, row in enumerate(self._rows):
            if thing not in numbers:
                side = sorted([row[member] for member in things])
                for member in side:
                    numbers[member] = len(sides)
                sides.append(tuple(side))
        leasts = [members[0] for members in sides]
        rows = tuple([tuple([numbers[self._rows[a][b]] for b in leasts]) for a in leasts])
        return (Group(rows), tuple(sides))

    def __mul__(self, other):
        if not isinstance(other, Group):
            return NotImplemented
        if len(self._rows) * len(other._rows) > MAX_GROUP:
            raise TooMany(MAX_GROUP)
        return Group(pair_rows(self._rows, other._rows))

    def __eq__(self, other):
        return isinstance(other, Group) and self._rows == other._rows

    def __len__(self):
        return len(self._rows)

    def __str__(self):
        return f"group of {len(self._rows)} things"


def check_group(value):
    """Refuse what is no group."""
    if not isinstance(value, Group):
        raise InvalidGroup("not a group")


def likenesses(group):
    """All likenesses of a group to itself, ascending."""
    check_group(group)
    yield from likenesses_between(group, group, ())


def likenesses_between(one, other, makers):
    """All likenesses of groups of one size that lead the makers as told, ascending.

    Makers are pairs of a thing and of its image. The least thing that they do
    not reach is led to each image in turn, so the moves come in their order.
    """
    images = images_of(one, other, makers)
    if images is None:
        return
    free = [thing for thing in range(len(one)) if thing not in images]
    if not free:
        yield tuple([images[thing] for thing in range(len(one))])
        return
    for image in range(len(one)):
        further = makers + ((free[0], image),)
        yield from likenesses_between(one, other, further)


def images_of(one, other, makers):
    """What a likeness with these makers does to all that they make, or None.

    It leads unlike things to unlike ones, and keeps the products of what it leads.
    """
    images = {one.unit: other.unit}
    found = [one.unit]
    reached = 0
    while reached < len(found):
        here = found[reached]
        for thing, image in makers:
            made = one.rows[here][thing]
            made_image = other.rows[images[here]][image]
            if made not in images:
                images[made] = made_image
                found.append(made)
            elif images[made] != made_image:
                return None
        reached += 1
    if len(set(list(images.values()))) < len(images):
        return None
    return images


def like_paper(one, other):
    """A likeness of one to other; if there is none, how many things have each order."""
    _check_likened(one, other)
    counts, others = order_counts(one), order_counts(other)
    # Groups of up to 12 things with equal counts are alike, so this finds one.
    if counts == others:
        for move in likenesses_between(one, other, ()):
            return ("like", move)
    return ("orders", counts, others)


def is_like_paper(one, other, value):
    """Whether the value is a right paper about the likeness of two groups."""
    _check_likened(one, other)
    if isinstance(value, tuple) and len(value) == 2 and is_same(value[0], "like"):
        return _is_likeness(one, other, value[1])
    counts, others = order_counts(one), order_counts(other)
    return counts != others and is_same(value, ("orders", counts, others))


def _check_likened(one, other):
    check_group(one)
    check_group(other)
    if max(len(one), len(other)) > MAX_LIKE:
        raise TooMany(MAX_LIKE)


def _is_likeness(one, other, value):
    if len(one) != len(other) or not is_move_of(value, len(one)):
        return False
    return keeps_products(one.rows, other.rows, value)


def order_counts(group):
    """The pairs of an order and of how many things have it, ascending."""
    return counts_of_orders(group.rows, group.unit)


def counts_of_orders(rows, unit):
    """The pairs of an order and of how many things have it, for the rows of a group."""
    orders = [order_in(rows, unit, thing) for thing in range(len(rows))]
    return tuple([(order, orders.count(order)) for order in sorted(set(orders))])


def all_groups(size):
    """One group of each kind with so many things."""
    check_within(size, 1, MAX_ALL)
    found = [Group(cyclic_rows(size))]
    two, four = Group(cyclic_rows(2)), Group(cyclic_rows(4))
    if size == 4:
        found = found + [two * two]
    if size == 6:
        found = found + [Group(polygon_rows(3))]
    if size == 8:
        found = found + [four * two, two * two * two]
        found = found + [Group(polygon_rows(4)), Group(quaternion_rows())]
    return tuple(found)
