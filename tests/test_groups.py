"""Stage 2 [2.1] and [2.2]: papers about rows, groups and their parts, reckoned again."""

import itertools
import unittest

from truenames.errors import InvalidGroup, InvalidMove, InvalidNumber, InvalidOperation, Refused, TooMany
from truenames.group import groups
from truenames.group.groups import Group, group_paper, is_group_paper
from truenames.group.moves import closure, joined
from tests.helper import (
    ALL_OF_FOUR, ALTERNATING, DICYCLIC, SIX, SWITCH, Case, all_lots, large_groups, renamed_group,
    small_groups, some_values,
)


def right_papers(rows):
    """All right papers about rows, in the order of the rules, the least things first."""
    things = range(len(rows))
    units = [e for e in things if all(rows[e][a] == a == rows[a][e] for a in things)]
    papers = [] if units else [("unit",)]
    for e in units:
        papers += [("back", a) for a in things if not any(rows[a][b] == e == rows[b][a] for b in things)]
    papers += [
        ("three", a, b, c)
        for a, b, c in itertools.product(things, repeat=3)
        if rows[rows[a][b]][c] != rows[a][rows[b][c]]
    ]
    return papers or [("group",)]


def all_papers(size):
    """All papers that can be told of rows of this size, right ones or not."""
    return (
        [("unit",), ("group",)] + [("back", a) for a in range(size)]
        + [("three", *told) for told in itertools.product(range(size), repeat=3)]
    )


def all_rows(size):
    for flat in itertools.product(range(size), repeat=size * size):
        yield tuple(flat[size * a:size * a + size] for a in range(size))


def is_part(group, lot):
    return group.unit in lot and all(group.rows[a][b] in lot for a in lot for b in lot)


def is_whole_part(group, lot):
    backs = {a: b for a in range(len(group)) for b in range(len(group)) if group.rows[a][b] == group.unit}
    return is_part(group, lot) and all(
        group.rows[group.rows[a][k]][backs[a]] in lot for a in range(len(group)) for k in lot
    )


class TestGroupPapers(Case):

    def check_rows(self, rows):
        papers = right_papers(rows)
        self.gives(papers[0], group_paper, rows)
        for paper in all_papers(len(rows)):
            self.assertIs(is_group_paper(rows, paper), paper in papers, (rows, paper))
        if papers == [("group",)]:
            self.assertEqual(Group(rows).rows, rows)
        else:
            self.refuses(Refused, papers[0], Group, rows)

    def test_all_rows_of_one_and_two_things(self):
        for size in (1, 2):
            for rows in all_rows(size):
                self.check_rows(rows)

    def test_some_rows_of_three_things(self):
        for rows in itertools.islice(all_rows(3), 0, None, 41):
            self.check_rows(rows)

    def test_all_rows_of_three_things_with_a_unit(self):
        for a, b, c, d in itertools.product(range(3), repeat=4):
            self.check_rows(((0, 1, 2), (1, a, b), (2, c, d)))
            self.check_rows(((a, 0, b), (0, 1, 2), (c, 2, d)))

    def test_groups_with_one_changed_entry(self):
        for group in (Group.cyclic(4), Group.cyclic(2) * Group.cyclic(2), renamed_group(Group.cyclic(4), (2, 3, 0, 1))):
            for a, b, changed in itertools.product(range(4), repeat=3):
                rows = [list(row) for row in group.rows]
                rows[a][b] = changed
                self.check_rows(tuple(tuple(row) for row in rows))

    def test_a_thing_taken_back_from_one_side_alone(self):
        """Things with a b = e, but b a not e: the rule "back" wants both."""
        rows = ((0, 1, 2), (1, 1, 0), (2, 2, 2))
        self.gives(("back", 1), group_paper, rows)
        self.gives(True, is_group_paper, rows, ("back", 2))
        self.check_rows(rows)

    def test_a_unit_from_one_side_alone(self):
        for size in (2, 3, 24):
            row = tuple(range(size))
            self.gives(("unit",), group_paper, (row,) * size)
            self.gives(("unit",), group_paper, tuple((a,) * size for a in range(size)))
            self.gives(True, is_group_paper, (row,) * size, ("unit",))
            self.gives(False, is_group_paper, (row,) * size, ("back", 0))
            self.gives(False, is_group_paper, (row,) * size, ("three", 0, 0, 0))

    def test_a_large_table_with_one_broken_three(self):
        group = ALL_OF_FOUR
        self.gives(("group",), group_paper, group.rows)
        self.gives(True, is_group_paper, group.rows, ("group",))
        rows = [list(row) for row in group.rows]
        rows[23][22], rows[23][21] = rows[23][21], rows[23][22]
        rows = tuple(tuple(row) for row in rows)
        papers = right_papers(rows)
        self.gives(papers[0], group_paper, rows)
        for paper in papers[::50]:
            self.gives(True, is_group_paper, rows, paper)
        self.refuses(Refused, papers[0], Group, rows)

    def test_near_papers(self):
        rows = ((0, 1, 2), (1, 0, 1), (2, 2, 0))
        group = Group.cyclic(2).rows
        unitless = ((0, 0), (0, 0))
        backless = ((0, 1), (1, 1))
        self.gives(True, is_group_paper, rows, ("three", 1, 1, 2))
        for value in some_values() + [
            ["three", 1, 1, 2], ("three", True, 1, 2), ("three", 1, True, 2), ("three", 1, 1), ("three", 1, 1, 2, 0),
            ("three", (1, 1, 2)), ("three", 1, 1, 3), ("three", -2, 1, 2), ("three", 1, 1, "2"), "three",
            ("Three", 1, 1, 2), ("three",), ("back", 0), ("back", 0, 0), ("unit", 0), ("three", 1, 1, 10 ** 99),
            ("three", 1, 1, None), ("three", 1, 1, (2,)), (None, 1, 1, 2), (("three",), 1, 1, 2), (SIX, 1, 1, 2),
        ]:
            self.gives(False, is_group_paper, rows, value)
        for value in some_values() + [["group"], ("group", 0), ("groups",), "group", ("unit",), (SIX,)]:
            self.gives(type(value) is tuple and value == ("group",), is_group_paper, group, value)
        for value in some_values() + [["unit"], ("unit", 0), "unit", ("group",), ("back", 0)]:
            self.gives(type(value) is tuple and value == ("unit",), is_group_paper, unitless, value)
        self.gives(True, is_group_paper, backless, ("back", 1))
        for value in (("back", True), ["back", 1], ("back", 0), ("back", 2), ("back", -1), ("back",), ("back", 1, 1)):
            self.gives(False, is_group_paper, backless, value)

    def test_wrong_rows(self):
        near = [
            (), ((),), ((0, 1),), ((0,), (0,)), ((0, 1), (1, 2)), ((0, 1), (1, True)), ([0],), [(0,)], ((0, 1), (1, -1)),
            ((0, 1), (1,)), ((0, 1), (1, 0, 1)), tuple(tuple((a + b) % 25 for b in range(25)) for a in range(25)),
            ((False,),), (("0",),), ((0, 1), (1, None)), ((0, 1), (1, 10 ** 99)), "01", (0, 1), (None,),
        ]
        for rows in near + [None, True, 0, "", {}, {0: (0,)}, SIX, SWITCH]:
            for call in (Group, group_paper):
                self.refuses(InvalidGroup, None, call, rows)
            self.refuses(InvalidGroup, None, is_group_paper, rows, ("group",))
            self.refuses(InvalidGroup, None, is_group_paper, rows, None)


class TestGroups(Case):

    ALL = small_groups() + large_groups()

    def test_constants(self):
        self.assertEqual((groups.MAX_GROUP, groups.MAX_LIKE, groups.MAX_ALL), (24, 12, 8))

    def test_properties(self):
        for group in self.ALL:
            things = range(len(group))
            rows = group.rows
            self.assertIsInstance(rows, tuple)
            self.assertEqual(group.size, len(rows))
            self.assertEqual(len(group), len(rows))
            self.assertEqual(str(group), f"group of {len(rows)} things")
            self.assertEqual([e for e in things if all(rows[e][a] == a for a in things)], [group.unit])
            centre = tuple(c for c in things if all(rows[a][c] == rows[c][a] for a in things))
            self.assertEqual(group.centre, centre)
            self.assertIs(group.is_commutative, all(rows[a][b] == rows[b][a] for a in things for b in things))

    def test_objects_keep_their_properties(self):
        for name in ("rows", "size", "unit", "is_commutative", "centre"):
            with self.assertRaises(AttributeError):
                setattr(Group.cyclic(2), name, 1)

    def test_products_backs_orders_and_powers(self):
        for group in self.ALL:
            things = range(len(group))
            for a in things:
                back = group.back(a)
                self.assertEqual((group.rows[a][back], group.rows[back][a]), (group.unit, group.unit))
                powers = [group.unit]
                while group.rows[powers[-1]][a] != group.unit:
                    powers.append(group.rows[powers[-1]][a])
                self.gives(len(powers), group.order_of, a)
                for many in list(range(-5, 26)) + [10 ** 60 - 1, 1 - 10 ** 60, 10 ** 50, -(10 ** 59)]:
                    self.assertEqual(group.raised(a, many), powers[many % len(powers)])
                for b in things:
                    self.assertEqual(group.times(a, b), group.rows[a][b])

    def test_wrong_things(self):
        for group in (Group.cyclic(1), SIX, ALL_OF_FOUR):
            size = len(group)
            right = [thing for thing in some_values() if type(thing) is int and 0 <= thing < size]
            for value in some_values() + [size, -size]:
                if value in right and type(value) is int:
                    continue
                self.refuses(InvalidNumber, value, group.back, value)
                self.refuses(InvalidNumber, value, group.order_of, value)
                for other in (0, "second", size, None):
                    self.refuses(InvalidNumber, value, group.times, value, other)
                    self.refuses(InvalidNumber, value, group.raised, value, other)
                self.refuses(InvalidNumber, value, group.times, size - 1, value)
                if type(value) is not int or abs(value) >= 10 ** 60:
                    self.refuses(InvalidNumber, value, group.raised, size - 1, value)

    def test_closures_by_parts(self):
        """The least part with some things is what all parts with them have together."""
        for group in small_groups():
            if len(group) > 8:
                continue
            lots = all_lots(len(group))
            parts = [lot for lot in lots if is_part(group, lot)]
            for lot in lots:
                told = set(range(len(group)))
                for part in parts:
                    if set(lot) <= set(part):
                        told &= set(part)
                self.gives(tuple(sorted(told)), group.closure, lot)

    def test_closures_of_large_groups(self):
        for group in large_groups():
            for lot in [(), (1,), (3, 7), (2, 5, 11), tuple(range(0, len(group), 5))]:
                told = group.closure(lot)
                self.assertTrue(is_part(group, told) and set(lot) <= set(told))
                self.assertEqual(len(group) % len(told), 0)
                reached = {group.unit}
                for _ in range(len(group)):
                    reached |= {group.rows[a][b] for a in reached for b in lot}
                self.assertEqual(told, tuple(sorted(reached)))

    def test_parts(self):
        for group in small_groups():
            if len(group) <= 9:
                told = tuple(sorted(lot for lot in all_lots(len(group)) if is_part(group, lot)))
                self.gives(told, group.parts)

    def test_parts_of_larger_groups(self):
        two = Group.cyclic(2)
        for group, many in (
            (ALL_OF_FOUR, 30), (two * two * two * two, 67), (Group.cyclic(24), 8), (Group.polygon(12), 34),
            (ALTERNATING, 10), (DICYCLIC, 8), (Group.polygon(6), 16), (Group.cyclic(4) * Group.cyclic(4), 15),
            (Group.cyclic(1), 1), (Group.cyclic(12), 6),
        ):
            told = group.parts()
            self.assertEqual(len(told), many)
            self.assertEqual(tuple(sorted(set(told))), told)
            for part in told:
                self.assertTrue(is_part(group, part))
                self.assertEqual(tuple(sorted(part)), part)

    def test_whole_parts_and_quotients(self):
        for group in small_groups() + [ALL_OF_FOUR]:
            lots = all_lots(len(group)) if len(group) <= 6 else group.parts() + ((), (0, 1), (group.unit, 3))
            for lot in lots:
                lot = tuple(sorted(set(lot)))
                whole = is_whole_part(group, lot)
                self.gives(whole, group.is_whole, lot)
                if whole:
                    self.check_quotient(group, lot)
                else:
                    self.refuses(InvalidOperation, None, group.quotient, lot)

    def check_quotient(self, group, lot):
        sides = sorted({tuple(sorted(group.rows[a][k] for k in lot)) for a in range(len(group))})
        quotient, told = group.quotient(lot)
        self.assertEqual(told, tuple(sides))
        self.assertIsInstance(quotient, Group)
        self.assertEqual(len(quotient), len(group) // len(lot))
        number = {thing: index for index, side in enumerate(sides) for thing in side}
        for a, b in itertools.product(range(len(group)), repeat=2):
            self.assertEqual(quotient.rows[number[a]][number[b]], number[group.rows[a][b]])
        self.assertEqual(group.quotient(lot), (quotient, told))

    def test_whole_parts_in_numbers(self):
        self.assertEqual([part for part in ALL_OF_FOUR.parts() if ALL_OF_FOUR.is_whole(part)],
                         [part for part in ALL_OF_FOUR.parts() if is_whole_part(ALL_OF_FOUR, part)])
        self.assertEqual(sum(ALL_OF_FOUR.is_whole(part) for part in ALL_OF_FOUR.parts()), 4)
        self.assertEqual(sum(map(Group.quaternions().is_whole, Group.quaternions().parts())), 6)

    def test_wrong_lots(self):
        for value in some_values() + [(6,), (5, 4), (0, 0, 2), (0, 2, 6), (0, True), [0, 2, 4], (1, 0), (0, 2, 4, 4)]:
            right = (
                type(value) is tuple and all(type(thing) is int and 0 <= thing < 6 for thing in value)
                and list(value) == sorted(set(value))
            )
            if not right:
                for call in (SIX.closure, SIX.is_whole, SIX.quotient):
                    self.refuses(InvalidOperation, None, call, value)

    def test_operators(self):
        for one, other in itertools.product(small_groups()[::3], repeat=2):
            if len(one) * len(other) > 24:
                self.refuses(TooMany, 24, lambda: one * other)
                continue
            told = one * other
            size = len(other)
            self.assertIsInstance(told, Group)
            for a, c in itertools.product(range(len(one)), repeat=2):
                for b, d in itertools.product(range(size), repeat=2):
                    self.assertEqual(told.rows[a * size + b][c * size + d], one.rows[a][c] * size + other.rows[b][d])
        self.assertEqual(len(Group.cyclic(24) * Group.cyclic(1)), 24)
        self.refuses(TooMany, 24, lambda: Group.cyclic(5) * Group.cyclic(5))

    def test_equality(self):
        for one, other in itertools.product(self.ALL, repeat=2):
            self.assertIs(one == other, one.rows == other.rows)
            self.assertIs(one != other, one.rows != other.rows)
        self.assertEqual(Group.cyclic(3), Group(((0, 1, 2), (1, 2, 0), (2, 0, 1))))
        for value in some_values() + [SIX.rows, 6]:
            if not isinstance(value, Group):
                self.assertIs(SIX == value, False)
                self.assertIs(value == SIX, False)
                self.assertIs(SIX != value, True)
        self.assertIn(Group.cyclic(2), [None, 3, Group.cyclic(2)])
        self.assertNotIn(Group.cyclic(2), [None, 3, Group.cyclic(3)])

    def test_what_raises_a_type_error(self):
        group = Group.cyclic(2)
        calls = [
            lambda: iter(group), lambda: list(group), lambda: 0 in group, lambda: group[0], lambda: reversed(group),
            lambda: group + group, lambda: group < group, lambda: group >= group, lambda: -group, lambda: ~group,
            lambda: group - 1, lambda: group ** 2, lambda: group // group, lambda: group | group, lambda: group(),
        ]
        calls += [lambda value=value: group * value for value in some_values() if not isinstance(value, Group)]
        calls += [lambda value=value: value * group for value in some_values() if not isinstance(value, Group)]
        for call in calls:
            with self.assertRaises(TypeError):
                call()


class TestKindsOfGroups(Case):

    def test_cyclic(self):
        for size in range(1, 25):
            told = tuple(tuple((a + b) % size for b in range(size)) for a in range(size))
            self.assertEqual(Group.cyclic(size).rows, told)

    def test_polygon(self):
        """The moves of the corners, and of their mirror: t turns by t, s mirrors."""
        for size in range(1, 13):
            group = Group.polygon(size)
            self.assertEqual(len(group), 2 * size)
            for t, s, u, r in itertools.product(range(size), range(2), range(size), range(2)):
                made = ((t + u if s == 0 else t - u) % size) * 2 + (s + r) % 2
                self.assertEqual(group.rows[2 * t + s][2 * u + r], made)

    def test_quaternions(self):
        group = Group.quaternions()
        one, i, j, k = 0, 2, 4, 6

        def negative(thing):
            return thing + 1 if thing % 2 == 0 else thing - 1

        self.assertEqual((len(group), group.unit), (8, one))
        told = {(i, j): k, (j, k): i, (k, i): j}
        for x in (i, j, k):
            told[x, x] = negative(one)
            told[x, one] = told[one, x] = x
        told[one, one] = one
        told.update({(y, x): negative(made) for (x, y), made in told.items() if x != y and one not in (x, y)})
        self.assertEqual(len(told), 16)
        for (x, y), made in told.items():
            self.gives(made, group.times, x, y)
            self.gives(negative(made), group.times, negative(x), y)
            self.gives(negative(made), group.times, x, negative(y))
            self.gives(made, group.times, negative(x), negative(y))

    def test_of_moves(self):
        for size, makers in (
            (0, ()), (0, ((),)), (1, ()), (3, ((1, 2, 0), (1, 0, 2))), (4, ((1, 0, 3, 2), (2, 3, 0, 1))),
            (4, ((1, 2, 3, 0), (1, 0, 2, 3))), (24, (tuple(range(1, 24)) + (0,),)), (5, ((1, 0, 3, 4, 2),)),
            (24, (tuple(range(24)),) * 24),
        ):
            told = closure(size, makers)
            group = Group.of_moves(size, makers)
            self.assertIsInstance(group, Group)
            self.assertEqual(len(group), len(told))
            for a, b in itertools.product(range(len(told)), repeat=2):
                self.assertEqual(told[group.rows[a][b]], joined(told[a], told[b]))

    def test_of_moves_with_too_many(self):
        self.refuses(TooMany, 24, Group.of_moves, 5, ((1, 2, 3, 4, 0), (1, 0, 2, 3, 4)))
        self.refuses(TooMany, 24, Group.of_moves, 8, ((1, 2, 3, 4, 5, 6, 7, 0), (1, 0, 2, 3, 4, 5, 6, 7)))
        self.refuses(TooMany, 24, Group.of_moves, 10, ((1, 2, 3, 4, 0, 6, 7, 8, 9, 5), (1, 2, 3, 4, 0, 5, 6, 7, 8, 9)))
        self.refuses(InvalidMove, None, Group.of_moves, 5, ((1, 2, 3, 4, 0), (1, 0, 2, 3, 4), (0,)))

    def test_wrong_sizes(self):
        for value in some_values():
            within = type(value) is int and value >= 1
            if not (within and value <= 24):
                self.refuses(InvalidNumber, value, Group.cyclic, value)
            if not (within and value <= 12):
                self.refuses(InvalidNumber, value, Group.polygon, value)
        self.refuses(InvalidNumber, 0, Group.cyclic, 0)
        self.refuses(InvalidNumber, 25, Group.cyclic, 25)
        self.refuses(InvalidNumber, 0, Group.polygon, 0)
        self.refuses(InvalidNumber, 13, Group.polygon, 13)


if __name__ == "__main__":
    unittest.main()
