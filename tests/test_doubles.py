"""Stage 7 [7.1] to [7.6]: doubles, reckoned by going through all things, all pairs and all threes."""

import itertools
import unittest

from truenames.double import doubles
from truenames.double.doubles import (
    Double, double_paper, is_double_paper, is_turns_paper, table_of, turns_paper,
)
from truenames.errors import InvalidDouble, InvalidGroup, InvalidMove, InvalidNumber, Refused, TooMany
from truenames.group.groups import Group
from truenames.table.passing import Passing
from tests.helper import RING, SIX, SWITCH, Case, all_moves, large_groups, renamed_group, same, small_groups, some_values
from tests.shown_doubles import (
    DOUBLES, LARGE_DOUBLES, SMALL_DOUBLES, behind, keeps_rule, minus, mirrored, moved_double, multiples_of, opened_double,
    rule_papers, turn_papers,
)
from tests.wrong import GROUP, VALUE, WrongCase, below, move_of_size

TWO, FOUR_RING = Group.cyclic(2), Group.cyclic(4)
TWOS = TWO * TWO


def groups_of(size):
    """Some groups on the same things, some of them with another unit."""
    groups = [Group.cyclic(size)]
    if size == 4:
        groups.append(TWOS)
    if size == 6:
        groups.append(SIX)
    order = tuple((5 * a + 1) % size if size % 5 else (a + 1) % size for a in range(size))
    return groups + [renamed_group(group, order) for group in groups]


class TestDoublePapers(Case):

    def check_groups(self, plus, circle):
        papers = rule_papers(plus, circle)
        self.gives(papers[0], double_paper, plus, circle)
        for told in itertools.product(range(-1, len(plus) + 1), repeat=3):
            self.assertIs(is_double_paper(plus, circle, ("rule", *told)), ("rule", *told) in papers)
        self.assertIs(is_double_paper(plus, circle, ("double",)), papers == [("double",)])
        if papers == [("double",)]:
            self.assertEqual(Double(plus, circle).circle, circle)
            self.assertEqual(plus.unit, circle.unit)
        else:
            self.refuses(Refused, papers[0], Double, plus, circle)
        return papers == [("double",)]

    def test_constant(self):
        self.assertEqual(doubles.MAX_DOUBLE, 24)

    def test_all_pairs_of_small_groups(self):
        found = 0
        for size in range(1, 5):
            groups = []
            for group in groups_of(size)[:2 if size == 4 else 1]:
                for order in all_moves(size):
                    if renamed_group(group, order) not in groups:
                        groups.append(renamed_group(group, order))
            for plus, circle in itertools.product(groups, repeat=2):
                found += self.check_groups(plus, circle)
        # Labelled groups, times the turn rows of [8.4]: 1 + 2 + 3 + 12 * 2 + 4 * 4.
        self.assertEqual(found, 46)

    def test_other_pairs(self):
        for size in (5, 6):
            for plus, circle in itertools.product(groups_of(size), repeat=2):
                self.check_groups(plus, circle)
        for double in SMALL_DOUBLES[::7]:
            self.check_groups(double.plus, double.circle)
            self.check_groups(double.circle, double.plus)

    def test_large_pairs(self):
        groups = [group for group in large_groups() if len(group) == 24]
        for plus, circle in itertools.product(groups[:3], repeat=2):
            papers = rule_papers(plus, circle)
            self.assertEqual(double_paper(plus, circle), papers[0])
            self.assertTrue(is_double_paper(plus, circle, papers[-1]))
            self.assertIs(is_double_paper(plus, circle, ("double",)), papers == [("double",)])
        for double in LARGE_DOUBLES:
            self.assertEqual(double_paper(double.plus, double.circle), ("double",))

    def test_near_papers(self):
        plus, circle = TWO, Group(((1, 0), (0, 1)))
        self.assertIs(is_double_paper(plus, circle, ("rule", 0, 0, 0)), True)
        for wrong in (
            ("rule", False, 0, 0), ("rule", 0, 0, False), ["rule", 0, 0, 0], ("rule", 0, 0), ("rule", 0, 0, 0, 0),
            ("rules", 0, 0, 0), ("rule", (0, 0, 0)), ("double",), "rule", ("rule", 0, 0, 2), ("rule", 0, -2, 0), None,
        ):
            self.assertIs(is_double_paper(plus, circle, wrong), False, wrong)
        for wrong in (["double"], ("double", 0), "double", ("doubles",), ("rule", 0, 0, 0), ("double", ())):
            self.assertIs(is_double_paper(TWO, TWO, wrong), False, wrong)
        for value in some_values():
            self.assertIs(is_double_paper(TWO, TWO, value), False)
            self.assertIs(is_double_paper(plus, circle, value), False)


class TestTurnsPapers(Case):

    def check_turns(self, plus, turns):
        papers = turn_papers(plus, turns)
        self.gives(papers[0], turns_paper, plus, turns)
        things = range(-1, len(plus) + 1)
        for told in itertools.product(things, repeat=3):
            self.assertIs(is_turns_paper(plus, turns, ("likeness", *told)), ("likeness", *told) in papers)
        for told in itertools.product(things, repeat=2):
            self.assertIs(is_turns_paper(plus, turns, ("joined", *told)), ("joined", *told) in papers)
        self.assertIs(is_turns_paper(plus, turns, ("turns",)), papers == [("turns",)])
        if papers == [("turns",)]:
            made = Double.of_turns(plus, turns)
            self.assertEqual((made.plus, made.turns), (plus, turns))
            told = tuple(tuple(plus.rows[a][turns[a][b]] for b in range(len(plus))) for a in range(len(plus)))
            self.assertEqual(made.circle.rows, told)
        else:
            self.refuses(Refused, papers[0], Double.of_turns, plus, turns)
        return papers == [("turns",)]

    def test_all_turns_of_small_groups(self):
        for size, many in ((1, 1), (2, 1), (3, 1)):
            for plus in groups_of(size):
                found = 0
                for turns in itertools.product(all_moves(size), repeat=size):
                    found += self.check_turns(plus, turns)
                self.assertEqual(found, many)

    def test_turns_of_four_things(self):
        """The numbers of [8.4], and turns near right ones."""
        for plus, many in ((Group.cyclic(4), 2), (TWOS, 4), (renamed_group(FOUR_RING, (2, 0, 1, 3)), 2)):
            moves = [move for move in all_moves(4) if self.leads_sums(plus, move)]
            found = 0
            for turns in itertools.product(moves, repeat=4):
                if turn_papers(plus, turns) == [("turns",)]:
                    found += self.check_turns(plus, turns)
            self.assertEqual(found, many)
        for at, move in itertools.product(range(4), all_moves(4)):
            self.check_turns(RING.plus, RING.turns[:at] + (move,) + RING.turns[at + 1:])

    def leads_sums(self, plus, move):
        return all(
            move[plus.rows[a][b]] == plus.rows[move[a]][move[b]] for a, b in itertools.product(range(len(plus)), repeat=2)
        )

    def test_turns_of_doubles(self):
        for double in DOUBLES:
            plus, add, back = double.plus, double.plus.rows, minus(double.plus)
            turns = tuple(
                tuple(add[back[a]][double.circle.rows[a][b]] for b in range(len(plus))) for a in range(len(plus))
            )
            self.assertEqual(double.turns, turns)
            self.assertEqual(turns_paper(plus, turns), ("turns",))
            self.assertEqual(Double.of_turns(plus, turns), double)
            self.assertIs(is_turns_paper(plus, turns, ("turns",)), True)
            self.assertIs(is_turns_paper(plus, turns, ("joined", 0, 0)), False)

    def test_changed_turns(self):
        for double in (mirrored(6), Double.about(SIX), multiples_of(8, 2), moved_double(mirrored(6), (3, 1, 5, 0, 2, 4))):
            size = len(double)
            for at in range(0, size, 2):
                for move in (double.turns[(at + 1) % size], tuple(range(size)), tuple(range(size))[::-1]):
                    self.check_turns(double.plus, double.turns[:at] + (move,) + double.turns[at + 1:])

    def test_near_papers(self):
        turns = ((0, 1, 2), (0, 2, 1), (0, 2, 1))
        plus = Group.cyclic(3)
        self.assertIs(is_turns_paper(plus, turns, ("joined", 1, 2)), True)
        for wrong in (
            ("joined", True, 2), ("joined", 1, 2, 0), ["joined", 1, 2], ("join", 1, 2), ("joined", (1, 2)), ("joined", 1),
            ("likeness", 1, 2), ("turns",), ("joined", 1, 3), ("joined", -2, 2), None, 0, ("joined", "1", 2),
        ):
            self.assertIs(is_turns_paper(plus, turns, wrong), False, wrong)
        turns = ((0, 1), (1, 0))
        self.assertIs(is_turns_paper(TWO, turns, ("likeness", 1, 0, 0)), True)
        for wrong in (
            ("likeness", True, 0, 0), ("likeness", 1, False, 0), ["likeness", 1, 0, 0], ("likeness", 1, 0, 0, 0),
            ("likeness", 1, 0), ("turns",), ("likeness", 0, 0, 0),
        ):
            self.assertIs(is_turns_paper(TWO, turns, wrong), False, wrong)
        for value in some_values():
            self.assertIs(is_turns_paper(RING.plus, RING.turns, value), False)
        self.assertIs(is_turns_paper(RING.plus, RING.turns, ["turns"]), False)
        self.assertIs(is_turns_paper(RING.plus, RING.turns, ("turns", ())), False)


class TestDoubles(Case):

    def test_properties(self):
        for double in DOUBLES:
            self.assertIs(type(double.plus), Group)
            self.assertIs(type(double.circle), Group)
            self.assertTrue(same(double.size, len(double.plus.rows)))
            self.assertTrue(same(len(double), len(double.circle)))
            self.assertTrue(same(double.unit, double.plus.unit))
            self.assertIs(double.is_plain, double.plus.rows == double.circle.rows)
            self.assertEqual(double.is_plain, all(turn == tuple(range(len(double))) for turn in double.turns))
            self.assertEqual(str(double), f"double of {len(double)} things")
            self.assertTrue(same(double.turns, tuple(tuple(turn) for turn in double.turns)))
            with self.assertRaises(AttributeError):
                double.plus = double.circle

    def test_turns_and_backs(self):
        """[7.2]"""
        for double in SMALL_DOUBLES:
            add, make, turns, back = double.plus.rows, double.circle.rows, double.turns, minus(double.plus)
            for a, b in itertools.product(range(len(double)), repeat=2):
                self.assertEqual(make[a][b], add[a][turns[a][b]])
                self.assertEqual(turns[make[a][b]], tuple(turns[a][x] for x in turns[b]))
            circled = minus(double.circle)
            self.assertTrue(all(turns[a][circled[a]] == back[a] for a in range(len(double))))

    def test_stars(self):
        for double in DOUBLES:
            add, back = double.plus.rows, minus(double.plus)
            things = range(0, len(double), 1 if len(double) < 9 else 5)
            for a, b in itertools.product(things, repeat=2):
                told = add[add[back[a]][double.circle.rows[a][b]]][back[b]]
                self.assertTrue(same(double.star(a, b), told))
        self.gives(2, RING.star, 1, 1)
        for value in some_values() + [4, -4]:
            if not below(value, 4):
                self.refuses(InvalidNumber, value, RING.star, value, 1)
                self.refuses(InvalidNumber, value, RING.star, 1, value)
                self.refuses(InvalidNumber, value, RING.star, value, value)
        self.refuses(InvalidNumber, 4, RING.star, 4, 5)

    def test_both_and_about(self):
        for group in small_groups() + large_groups():
            both, about = Double.both(group), Double.about(group)
            self.assertEqual((both.plus, both.circle, both.is_plain), (group, group, True))
            self.assertEqual((about.plus, about.circle), (group, behind(group)))
            self.assertEqual(both == about, group.is_commutative)
            back = minus(group)
            for a in range(0, len(group), 3):
                told = tuple(group.rows[group.rows[back[a]][b]][a] for b in range(len(group)))
                self.assertEqual(about.turns[a], told)

    def test_renamed(self):
        for double in SMALL_DOUBLES:
            size = len(double)
            for order in (tuple(range(size)), tuple(range(size))[::-1], tuple((a + 1) % size for a in range(size))):
                other = double.renamed(order)
                self.assertEqual(other, moved_double(double, order))
                self.assertEqual(order[other.unit], double.unit)
        for order in all_moves(4):
            self.assertEqual(RING.renamed(order), moved_double(RING, order))
        for value in some_values():
            if not move_of_size(value, 4):
                self.refuses(InvalidMove, None, RING.renamed, value)
        large = mirrored(24)
        order = tuple((7 * a + 5) % 24 for a in range(24))
        self.assertEqual(large.renamed(order), moved_double(large, order))

    def test_plus_from_behind(self):
        for double in DOUBLES:
            other = ~double
            self.assertEqual((other.plus, other.circle), (behind(double.plus), double.circle))
            self.assertEqual(~other, double)
            self.assertEqual(other == double, double.plus.is_commutative)
        for double in (Double.about(SIX), mirrored(6), Double.both(SIX)):
            add, back, turns = double.plus.rows, minus(double.plus), double.turns
            for a, b in itertools.product(range(6), repeat=2):
                self.assertEqual((~double).turns[a][b], add[add[a][turns[a][b]]][back[a]])

    def test_pairs(self):
        few = [SMALL_DOUBLES[0], RING, mirrored(6), Double.about(SIX), Double.both(TWO), multiples_of(4, 2), multiples_of(12, 6)]
        few += [moved_double(RING, (1, 0, 3, 2)), Double.both(Group.cyclic(24)), Double.both(Group.cyclic(5)), mirrored(10)]
        for one, other in itertools.product(few, repeat=2):
            if len(one) * len(other) <= 24:
                pair = one * other
                self.assertEqual(pair, opened_double(one, other))
                for a, b in itertools.product(range(len(one)), range(len(other))):
                    self.assertEqual(pair.unit, one.unit * len(other) + other.unit)
            else:
                with self.assertRaises(TooMany) as caught:
                    one * other
                self.assertEqual(caught.exception.limit, 24)

    def test_operators_with_other_kinds(self):
        for value in some_values():
            if type(value) is Double:
                continue
            for make in (
                lambda: RING * value, lambda: value * RING, lambda: RING + value, lambda: RING < value, lambda: RING[value],
                lambda: RING - value, lambda: RING @ value, lambda: RING | value, lambda: divmod(RING, value),
            ):
                with self.assertRaises(TypeError):
                    make()
            self.assertIs(RING == value, False)
            self.assertIs(RING != value, True)
        for make in (
            lambda: iter(RING), lambda: list(RING), lambda: -RING, lambda: RING + RING, lambda: 0 in RING, lambda: RING[0],
            lambda: abs(RING), lambda: RING < RING, lambda: tuple(RING),
        ):
            with self.assertRaises(TypeError):
                make()
        with self.assertRaises(TypeError):
            RING * SIX
        with self.assertRaises(TypeError):
            SIX * RING

    def test_equality(self):
        for one, other in itertools.product(SMALL_DOUBLES[::3], repeat=2):
            told = (one.plus.rows, one.circle.rows) == (other.plus.rows, other.circle.rows)
            self.assertIs(one == other, told)
            self.assertIs(one != other, not told)
        self.assertTrue(RING == Double(RING.plus, RING.circle))
        self.assertFalse(Double.both(FOUR_RING) == RING)
        self.assertFalse(Double.both(SIX) == Double.about(SIX))
        self.assertTrue(RING in [SWITCH, RING])

    def test_what_the_document_says_of_ring(self):
        for a, b in itertools.product(range(4), repeat=2):
            self.assertEqual(RING.circle.times(a, b), (a + b + 2 * a * b) % 4)

    def test_what_the_document_says_is_not_true(self):
        """[7.6]"""
        self.assertNotEqual(Double.about(SIX).star(1, 2), Double.about(SIX).plus.back(Double.about(SIX).star(2, 1)))
        self.assertTrue(keeps_rule(RING.plus, RING.circle, 1, 2, 3))


class TestTables(Case):

    def test_tables_of_doubles(self):
        for double in SMALL_DOUBLES:
            if len(double) > 8:
                self.refuses(TooMany, 8, table_of, double)
                continue
            table = table_of(double)
            make, turns, back = double.circle.rows, double.turns, minus(double.circle)
            for a, b in itertools.product(range(len(double)), repeat=2):
                u, v = table.passed(a, b)
                self.assertEqual(u, turns[a][b])
                self.assertEqual(make[u][v], make[a][b])
                self.assertEqual(v, make[back[u]][make[a][b]])
            self.assertIs(type(table), Passing)
            self.assertEqual(table.is_quiet, double.plus.is_commutative)
            self.gives(table, table_of, double)
        for double in LARGE_DOUBLES:
            self.refuses(TooMany, 8, table_of, double)
        self.assertEqual(table_of(Double.both(Group.cyclic(3))), Passing.unmoved(3))
        self.assertEqual(len(table_of(multiples_of(8, 2))), 8)

    def test_wrong_arguments(self):
        for value in some_values():
            if type(value) is not Double:
                self.refuses(InvalidDouble, None, table_of, value)


CIRCLE = (InvalidGroup, False, lambda value, told: type(value) is Group and len(value) == len(told[0]))
TURNS = (
    InvalidDouble, False,
    lambda value, told: type(value) is tuple and len(value) == len(told[0])
    and all(move_of_size(move, len(told[0])) for move in value),
)


class TestWrong(WrongCase):

    def test_groups(self):
        names = ["InvalidGroup", "none"]
        others = [(TWO, FOUR_RING, SIX, None), (TWO, TWOS, [TWO])]
        self.assertEqual(sorted(self.tries(double_paper, [GROUP, CIRCLE], [], others)), names)
        found = self.tries(is_double_paper, [GROUP, CIRCLE, VALUE], [], others + [(None, ("double",))])
        self.assertEqual(sorted(found), names)
        for value in some_values():
            for other in (TWO, TWOS, value):
                if type(value) is not Group:
                    self.refuses(InvalidGroup, None, Double, value, other)
                    self.refuses(InvalidGroup, None, Double, other, value)
        self.refuses(InvalidGroup, None, Double, TWO, FOUR_RING)
        self.refuses(InvalidGroup, None, Double, TWO.rows, TWO)

    def test_turns(self):
        names = ["InvalidDouble", "InvalidGroup", "none"]
        more = [((0, 1), (0, 1)), ((0, 1), (1, 1)), ((0, 1),), RING.turns, RING.turns[:3] + ([0, 1, 2, 3],), list(RING.turns)]
        others = [(TWO, FOUR_RING, None), (((0, 1), (0, 1)), RING.turns, None)]
        self.assertEqual(sorted(self.tries(turns_paper, [GROUP, TURNS], [], others, more)), names)
        found = self.tries(is_turns_paper, [GROUP, TURNS, VALUE], [], others + [(None, ("turns",))], more)
        self.assertEqual(sorted(found), names)
        for value in some_values() + more:
            if type(value) is not Group:
                self.refuses(InvalidGroup, None, Double.of_turns, value, value)
                self.refuses(InvalidGroup, None, Double.both, value)
                self.refuses(InvalidGroup, None, Double.about, value)
            if value != RING.turns:
                self.refuses(InvalidDouble, None, Double.of_turns, FOUR_RING, value)
        self.refuses(InvalidDouble, None, Double.of_turns, TWO, RING.turns)


if __name__ == "__main__":
    unittest.main()
