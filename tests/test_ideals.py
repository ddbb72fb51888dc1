"""Stage 12 [12.1] to [12.6]: parts by going through all lots, quotients by the sides, rows star by star."""

import itertools
import unittest

from truenames.double.doubles import Double, table_of
from truenames.double.ideals import (
    ideals, is_ideal, is_left_part, left_parts, left_row, quotient_of, right_row, starred, still_centre, still_levels,
    still_part,
)
from truenames.double.listing import doubles_on
from truenames.errors import InvalidDouble, InvalidOperation, Refused
from truenames.group.groups import Group, all_groups
from truenames.table.levels import level, levels
from tests.helper import RING, SIX, all_lots, same, some_values
from tests.shown_doubles import LARGE_DOUBLES, SMALL_DOUBLES, minus, moved_double, multiples_of
from tests.wrong import DOUBLE, LOT, WrongCase

TURNED = Double.of_turns(Group.cyclic(3) * Group.cyclic(2), ((0, 1, 2, 3, 4, 5), (0, 1, 4, 5, 2, 3)) * 3)
ABOUT = Double.about(SIX)
ONE = Double.both(Group.cyclic(1))
LISTED = [double for size in (4, 6) for plus in all_groups(size) for double in doubles_on(plus)]
LISTED += [double for plus in all_groups(8)[1:] for double in list(doubles_on(plus))[::3]]
MOVED = [moved_double(double, tuple((5 * x + 3) % len(double) for x in range(len(double)))) for double in LISTED[::2] if len(double) != 5]
FEW = [ONE, RING, TURNED, ABOUT] + [double for double in SMALL_DOUBLES if len(double) <= 8][::2] + LISTED + MOVED
MANY = [double for double in SMALL_DOUBLES if len(double) > 8] + LARGE_DOUBLES


def star_of(double, a, b):
    """The turn of a, of b, less b, by both groups."""
    add, back = double.plus.rows, minus(double.plus)
    return add[add[back[a]][double.circle.rows[a][b]]][back[b]]


def is_left_lot(double, lot):
    add = double.plus.rows
    if double.unit not in lot or any(add[a][b] not in lot for a in lot for b in lot):
        return False
    return all(turn[a] in lot for turn in double.turns for a in lot)


def is_whole_lot(double, lot):
    """Whether b + a - b and b o a o c are in the lot, c taking b back in circle."""
    for group in (double.plus, double.circle):
        rows, back = group.rows, minus(group)
        if any(rows[rows[b][a]][back[b]] not in lot for b in range(len(double)) for a in lot):
            return False
    return True


def in_order(lots):
    return tuple(sorted(lots, key=lambda lot: (len(lot), lot)))


def sums_of(double, stars):
    """All sums of stars, added one by one."""
    add = double.plus.rows
    lot = {double.unit}
    while True:
        more = lot | {add[a][star] for a in lot for star in stars}
        if more == lot:
            return tuple(sorted(lot))
        lot = more


def stars_of(double, one, other):
    return sums_of(double, {star_of(double, a, b) for a in one for b in other})


def sides_of(double, lot):
    """The sides by all four ways, which are one for an ideal; None if they are unlike."""
    add, make = double.plus.rows, double.circle.rows
    sides = set()
    for a in range(len(double)):
        ways = {
            tuple(sorted(add[a][i] for i in lot)), tuple(sorted(add[i][a] for i in lot)),
            tuple(sorted(make[a][i] for i in lot)), tuple(sorted(make[i][a] for i in lot)),
        }
        if len(ways) > 1:
            return None
        sides |= ways
    return tuple(sorted(sides, key=min))


def quotient_by_sides(double, lot):
    """The rows of both sums of sides, each told by all members."""
    sides = sides_of(double, lot)
    number = {a: index for index, side in enumerate(sides) for a in side}
    rows = []
    for group in (double.plus, double.circle):
        table = []
        for side in sides:
            row = [{number[group.rows[a][b]] for a in side for b in other} for other in sides]
            assert all(len(found) == 1 for found in row)
            table.append(tuple(found.pop() for found in row))
        rows.append(tuple(table))
    return rows, sides


def still_by_rule(double):
    add = double.plus.rows
    idle = tuple(range(len(double)))
    return tuple(a for a in idle if double.turns[a] == idle and all(add[a][b] == add[b][a] for b in idle))


def levels_by_quotients(double):
    sizes = [len(double)]
    while len(double) > 1 and still_by_rule(double) != (double.unit,):
        (plus, circle), _ = quotient_by_sides(double, still_by_rule(double))
        double = Double(Group(plus), Group(circle))
        sizes.append(len(double))
    return tuple(sizes)


def rows_by_stars(double):
    whole = tuple(range(len(double)))
    right, left = [whole], [whole]
    while stars_of(double, right[-1], whole) != right[-1]:
        right.append(stars_of(double, right[-1], whole))
    while stars_of(double, whole, left[-1]) != left[-1]:
        left.append(stars_of(double, whole, left[-1]))
    return tuple(right), tuple(left)


def is_split(group):
    """Whether a group is a product of groups whose sizes are powers of primes: unlike primes commute."""
    things = range(len(group))
    orders = [group.order_of(a) for a in things]
    primes = [p for p in range(2, 25) if len(group) % p == 0 and all(p % q for q in range(2, p))]
    for p in primes:
        lot = [a for a in things if p ** 8 % orders[a] == 0]
        others = [a for a in things if orders[a] % p]
        if any(group.rows[a][b] != group.rows[b][a] for a in lot for b in others):
            return False
    return True


class TestParts(WrongCase):

    def test_all_lots_of_small_doubles(self):
        for double in FEW:
            lots = all_lots(len(double))
            left = in_order(lot for lot in lots if is_left_lot(double, lot))
            whole = in_order(lot for lot in left if is_whole_lot(double, lot))
            self.gives(left, left_parts, double)
            self.gives(whole, ideals, double)
            for lot in lots if len(double) <= 6 else lots[::3] + list(left):
                self.assertIs(is_left_part(double, lot), lot in left)
                self.assertIs(is_ideal(double, lot), lot in whole)

    def test_parts_of_large_doubles(self):
        """Of all parts of plus."""
        for double in MANY:
            parts = double.plus.parts()
            left = in_order(lot for lot in parts if is_left_lot(double, lot))
            self.gives(left, left_parts, double)
            self.gives(in_order(lot for lot in left if is_whole_lot(double, lot)), ideals, double)
            for lot in parts[::4]:
                self.assertIs(is_left_part(double, lot), is_left_lot(double, lot))
                self.assertIs(is_ideal(double, lot), is_left_lot(double, lot) and is_whole_lot(double, lot))

    def test_what_the_points_tell(self):
        """[12.1]"""
        for double in FEW + MANY[::3]:
            left, whole = left_parts(double), ideals(double)
            self.assertEqual((left[0], left[-1]), ((double.unit,), tuple(range(len(double)))))
            self.assertEqual((whole[0], whole[-1]), (left[0], left[-1]))
            self.assertEqual([len(lot) for lot in left], sorted(len(lot) for lot in left))
            for lot in left:
                self.assertEqual(double.circle.closure(lot), lot)

    def test_edges(self):
        self.gives(((0,),), left_parts, ONE)
        self.gives(((0,),), ideals, ONE)
        self.gives(False, is_left_part, ONE, ())
        self.gives(False, is_ideal, ONE, ())
        self.gives(True, is_ideal, ONE, (0,))
        self.gives(False, is_left_part, RING, (0, 1))
        self.gives(False, is_left_part, RING, (1, 2))
        self.gives(False, is_left_part, RING.renamed((1, 0, 2, 3)), (0,))
        self.gives(True, is_ideal, RING.renamed((1, 0, 2, 3)), (1,))


class TestQuotients(WrongCase):

    def test_quotients_by_sides(self):
        refused = 0
        for double in FEW + MANY[::2]:
            for lot in left_parts(double):
                if is_whole_lot(double, lot):
                    (plus, circle), sides = quotient_by_sides(double, lot)
                    told = quotient_of(double, lot)
                    self.assertEqual((told[0].plus.rows, told[0].circle.rows), (plus, circle))
                    self.assertTrue(same(told[1], sides))
                    self.gives(told, quotient_of, double, lot)
                else:
                    self.assertIsNone(sides_of(double, lot))
                    self.refuses(Refused, ("ideal",), quotient_of, double, lot)
                    refused += 1
        self.assertGreater(refused, 20)

    def test_lots_that_are_no_ideals(self):
        for double in (RING, TURNED, ABOUT, ONE):
            for lot in all_lots(len(double)):
                if lot not in ideals(double):
                    self.refuses(Refused, ("ideal",), quotient_of, double, lot)

    def test_quotients_by_all_and_by_the_unit(self):
        for double in FEW[:12] + MANY[::9]:
            quotient, sides = quotient_of(double, tuple(range(len(double))))
            self.assertEqual((quotient, sides), (ONE, (tuple(range(len(double))),)))
            quotient, sides = quotient_of(double, (double.unit,))
            self.assertEqual((quotient, sides), (double, tuple((a,) for a in range(len(double)))))

    def test_plain_quotients(self):
        """[12.3]"""
        for double in FEW:
            whole = tuple(range(len(double)))
            stars = stars_of(double, whole, whole)
            for lot in ideals(double):
                self.assertEqual(quotient_of(double, lot)[0].is_plain, set(stars) <= set(lot))


class TestStill(WrongCase):

    def test_still_parts(self):
        for double in FEW + MANY:
            still = still_by_rule(double)
            make = double.circle.rows
            centre = tuple(a for a in still if all(make[a][b] == make[b][a] for b in range(len(double))))
            self.gives(still, still_part, double)
            self.gives(centre, still_centre, double)
            self.assertTrue(is_ideal(double, still) and is_ideal(double, centre))

    def test_still_levels(self):
        ends = set()
        for double in FEW + MANY[::2]:
            told = levels_by_quotients(double)
            self.gives(told, still_levels, double)
            ends.add(told[-1] == 1)
            if double.plus.is_commutative and len(double) <= 8:
                self.assertEqual(told, levels(table_of(double)))
        self.assertEqual(ends, {True, False})
        self.gives((1,), still_levels, ONE)
        self.gives((24, 1), still_levels, Double.both(Group.cyclic(24)))


class TestStars(WrongCase):

    def test_starred(self):
        for double in FEW:
            lots = all_lots(len(double))
            for one, other in itertools.product(lots[::len(lots) // 6 + 1], lots[1::len(lots) // 5 + 1]):
                self.gives(stars_of(double, one, other), starred, double, one, other)
            self.gives((double.unit,), starred, double, (), ())
            self.gives((double.unit,), starred, double, (), lots[-1])
            self.gives((double.unit,), starred, double, lots[-1], ())
        for double in MANY[::4]:
            lots = [(a, b) for a, b in itertools.combinations(range(len(double)), 2)][::17]
            for one, other in itertools.product(lots, lots[::3]):
                self.gives(stars_of(double, one, other), starred, double, one, other)

    def test_rows(self):
        for double in FEW + MANY:
            right, left = rows_by_stars(double)
            self.gives(right, right_row, double)
            self.gives(left, left_row, double)
            self.assertTrue(all(is_ideal(double, lot) for lot in right))
            self.assertTrue(all(is_left_part(double, lot) for lot in left))

    def test_ends_of_rows(self):
        """[12.4]"""
        ends = set()
        for double in FEW + MANY:
            if double.plus.is_commutative:
                right = len(right_row(double)[-1]) == 1
                if len(double) <= 8:
                    self.assertEqual(right, level(table_of(double)) is not None)
                left = len(left_row(double)[-1]) == 1
                self.assertEqual(left, is_split(double.circle))
                ends.add((right, left))
        self.assertGreaterEqual(len(ends), 3)

    def test_edges(self):
        self.gives(((0,),), right_row, ONE)
        self.gives(((0,),), left_row, ONE)
        whole = tuple(range(24))
        self.gives((whole, (0,)), right_row, Double.both(Group.cyclic(24)))

    def test_what_the_document_says_is_not_true(self):
        """[12.6]"""
        self.assertNotEqual(left_parts(TURNED), ideals(TURNED))
        self.assertEqual((len(right_row(TURNED)[-1]), len(left_row(TURNED)[-1])), (1, 3))
        both = Double.both(SIX)
        self.assertEqual((still_part(both), both.turns[1]), ((0,), tuple(range(6))))
        self.assertEqual(still_part(quotient_of(RING, still_part(RING))[0]), (0, 1))
        ring = multiples_of(8, 2)
        self.assertTrue(all(is_ideal(ring, lot) for lot in left_parts(ring)))


class TestWrong(WrongCase):

    def test_doubles(self):
        for call in (left_parts, ideals, still_part, still_centre, still_levels, right_row, left_row):
            found = self.tries(call, [DOUBLE], [], [()])
            self.assertEqual(sorted(found), ["InvalidDouble", "none"])

    def test_lots(self):
        doubles = (RING, TURNED, ONE, None, SIX)
        lots = ((), (0,), (0, 2), (2, 0), (0, 0), (0, True), [0], (0, 4), (0, 2, 4), (-1, 0), None)
        for call in (is_left_part, is_ideal):
            found = self.tries(call, [DOUBLE, LOT], [], [doubles, lots])
            self.assertEqual(sorted(found), ["InvalidDouble", "InvalidOperation", "none"])
        ideal = (Refused, ("ideal",), lambda told: is_left_lot(*told) and is_whole_lot(*told))
        found = self.tries(quotient_of, [DOUBLE, LOT], [ideal], [doubles, lots])
        self.assertEqual(sorted(found), ["InvalidDouble", "InvalidOperation", "Refused", "none"])
        found = self.tries(starred, [DOUBLE, LOT, LOT], [], [doubles, lots, lots])
        self.assertEqual(sorted(found), ["InvalidDouble", "InvalidOperation", "none"])

    def test_first_errors(self):
        for value in some_values():
            if type(value) is not Double:
                self.refuses(InvalidDouble, None, starred, value, value, value)
                self.refuses(InvalidDouble, None, quotient_of, value, (0, True))
        self.refuses(InvalidOperation, None, starred, RING, (0, 4), (0, 4))


if __name__ == "__main__":
    unittest.main()
