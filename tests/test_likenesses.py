"""Stage 2 [2.3]: likenesses of groups, papers about them, and the kinds of groups."""

import itertools
import unittest

from truenames.errors import InvalidGroup, InvalidNumber, TooMany
from truenames.group.groups import Group, all_groups, is_like_paper, like_paper, likenesses
from tests.helper import (
    ALL_OF_FOUR, ALTERNATING, DICYCLIC, SIX, SWITCH, Case, all_moves, large_groups, renamed_group, same,
    small_groups, some_values,
)


def is_likeness(one, other, move):
    things = range(len(one))
    return all(
        move[one.rows[a][b]] == other.rows[move[a]][move[b]] for a in things for b in things
    )


def counted_orders(group):
    """How many things have each order, by joining each thing with itself."""
    counts = {}
    for a in range(len(group)):
        power, order = a, 1
        while power != group.unit:
            power, order = group.rows[power][a], order + 1
        counts[order] = counts.get(order, 0) + 1
    return tuple(sorted(counts.items()))


def spread(group):
    """The same group with its things in another order."""
    size = len(group)
    step = next(step for step in (5, 7, 11, 13) if size % step)
    return renamed_group(group, tuple((step * index + 1) % size for index in range(size)))


class TestLikenesses(Case):

    def test_likenesses_by_all_moves(self):
        for group in small_groups():
            if len(group) <= 6:
                told = [move for move in all_moves(len(group)) if is_likeness(group, group, move)]
                self.gives(told, lambda shown: list(likenesses(shown)), group)

    def test_likenesses_in_numbers(self):
        two = Group.cyclic(2)
        for group, many in (
            (Group.cyclic(7), 6), (Group.cyclic(8), 4), (Group.cyclic(4) * two, 8), (two * two * two, 168),
            (Group.polygon(4), 8), (Group.quaternions(), 24), (Group.cyclic(3) * Group.cyclic(3), 48),
            (ALTERNATING, 24), (DICYCLIC, 12), (Group.polygon(6), 12), (Group.cyclic(24), 8), (ALL_OF_FOUR, 24),
            (Group.polygon(12), 48), (two * two * two * Group.cyclic(3), 336), (Group.cyclic(23), 22),
            (two * two * two * two, 20160), (Group.cyclic(4) * Group.cyclic(4), 96), (Group.cyclic(1), 1),
        ):
            for shown in (group, spread(group)):
                told = list(likenesses(shown))
                self.assertEqual(len(told), many)
                self.assertTrue(all(one < two for one, two in zip(told, told[1:])))
                for move in told[::100] + told[:5]:
                    self.assertEqual(sorted(move), list(range(len(shown))))
                    self.assertTrue(is_likeness(shown, shown, move))

    def test_the_generator(self):
        told = likenesses(SIX)
        self.assertIs(iter(told), told)
        self.assertEqual(next(told), (0, 1, 2, 3, 4, 5))
        self.assertEqual(list(likenesses(SIX)), list(likenesses(SIX)))
        for value in some_values() + [SWITCH, SIX.rows]:
            if not isinstance(value, Group):
                waiting = likenesses(value)
                self.refuses(InvalidGroup, None, lambda: next(likenesses(value)))
                with self.assertRaises(InvalidGroup):
                    next(waiting)


class TestLikePapers(Case):

    SHOWN = [group for group in small_groups() if len(group) <= 12]

    def test_like_papers(self):
        """[2.3] says that groups of up to 12 things with equal orders are alike."""
        for one, other in itertools.product(self.SHOWN, repeat=2):
            counts, others = counted_orders(one), counted_orders(other)
            paper = like_paper(one, other)
            self.assertIs(is_like_paper(one, other, paper), True)
            if counts == others:
                self.assertEqual((len(paper), paper[0]), (2, "like"))
                self.assertEqual(sorted(paper[1]), list(range(len(one))))
                self.assertTrue(is_likeness(one, other, paper[1]))
                self.assertIs(is_like_paper(one, other, ("orders", counts, others)), False)
            else:
                self.assertTrue(same(paper, ("orders", counts, others)))
                self.assertIs(is_like_paper(one, other, ("like", tuple(range(len(one))))), False)
                self.assertIs(is_like_paper(one, other, ("orders", others, counts)), False)
            self.assertEqual(like_paper(one, other), paper)

    def test_groups_of_twelve_in_another_order(self):
        groups = [Group.cyclic(12), Group.cyclic(6) * Group.cyclic(2), Group.polygon(6), ALTERNATING, DICYCLIC]
        for at, to in itertools.product(range(5), repeat=2):
            paper = like_paper(groups[at], spread(groups[to]))
            self.assertEqual(paper[0], "like" if at == to else "orders")
            self.assertTrue(is_like_paper(groups[at], spread(groups[to]), paper))
            if at == to:
                self.assertTrue(is_likeness(groups[at], spread(groups[to]), paper[1]))

    def test_all_moves_as_papers(self):
        two = Group.cyclic(2)
        for one, other in (
            (SIX, renamed_group(SIX, (3, 0, 4, 1, 5, 2))), (SIX, Group.cyclic(6)), (Group.cyclic(4), two * two),
            (two * two, renamed_group(two * two, (2, 3, 1, 0))), (Group.cyclic(5), Group.cyclic(5)),
        ):
            for move in all_moves(len(one)):
                self.assertIs(is_like_paper(one, other, ("like", move)), is_likeness(one, other, move))

    def test_near_papers(self):
        one, other = SIX, Group.cyclic(6)
        counts, others = ((1, 1), (2, 3), (3, 2)), ((1, 1), (2, 1), (3, 2), (6, 2))
        self.gives(True, is_like_paper, one, other, ("orders", counts, others))
        near = [
            ("orders", counts), ("orders", others, counts), ("orders", counts, others, ()), ["orders", counts, others],
            ("orders", list(counts), others), ("orders", counts, list(others)), ("Orders", counts, others),
            ("orders", ((True, 1), (2, 3), (3, 2)), others), ("orders", ((1, True), (2, 3), (3, 2)), others),
            ("orders", ([1, 1], (2, 3), (3, 2)), others), ("orders", counts[::-1], others), ("orders", counts[:2], others),
            ("orders", counts, others[:3]), ("orders", counts, others + ((12, 0),)), ("orders", dict(counts), dict(others)),
            ("orders", ((1, 1), (2, 3), (3, 3)), others), ("like", (0, 1, 2, 3, 4, 5)), "orders", ("orders",),
            (None, counts, others), ("orders", None, None), (counts, others), ("orders", "orders", "orders"),
        ]
        for value in some_values() + near:
            self.gives(False, is_like_paper, one, other, value)
        idle = (0, 1, 2, 3, 4, 5)
        self.gives(True, is_like_paper, SIX, SIX, ("like", idle))
        near = [
            ("like",), ("like", idle, ()), ["like", idle], ("like", list(idle)), ("like", (False, True, 2, 3, 4, 5)),
            ("like", (0, True, 2, 3, 4, 5)), ("like", idle[:5]), ("like", idle + (6,)), ("like", (0,) * 6), (True, idle),
            ("like", (6, 1, 2, 3, 4, 5)), ("like", (-6, 1, 2, 3, 4, 5)), ("like", None), ("Like", idle), "like",
            ("like", (1, 0, 2, 3, 4, 5)), ("orders", counts, counts), ("like", "012345"), ("like", ("0", 1, 2, 3, 4, 5)),
        ]
        for value in some_values() + near:
            self.gives(False, is_like_paper, SIX, SIX, value)

    def test_groups_of_unlike_sizes(self):
        two = Group.cyclic(2)
        self.gives(("orders", ((1, 1), (2, 1)), ((1, 1), (2, 3))), like_paper, two, two * two)
        self.gives(("orders", ((1, 1),), ((1, 1), (3, 2))), like_paper, Group.cyclic(1), Group.cyclic(3))
        for move in ((0, 1), (0, 1, 2, 3), (0, 2), (0,)):
            self.gives(False, is_like_paper, two, two * two, ("like", move))
            self.gives(False, is_like_paper, two * two, two, ("like", move))

    def test_too_many(self):
        twelve = Group.cyclic(12)
        self.assertEqual(like_paper(twelve, twelve)[0], "like")
        for many in (13, 24):
            more = Group.cyclic(many)
            for one, other in ((more, more), (more, twelve), (twelve, more), (Group.cyclic(1), more)):
                self.refuses(TooMany, 12, like_paper, one, other)
                self.refuses(TooMany, 12, is_like_paper, one, other, ("like", tuple(range(many))))
                self.refuses(TooMany, 12, is_like_paper, one, other, None)

    def test_wrong_groups(self):
        more = Group.cyclic(13)
        for value in some_values() + [SIX.rows]:
            if not isinstance(value, Group):
                for right in (SIX, more):
                    self.refuses(InvalidGroup, None, like_paper, value, right)
                    self.refuses(InvalidGroup, None, like_paper, right, value)
                    self.refuses(InvalidGroup, None, is_like_paper, value, right, ("like", (0,)))
                    self.refuses(InvalidGroup, None, is_like_paper, right, value, ("like", (0,)))
                self.refuses(InvalidGroup, None, like_paper, value, None)


class TestAllGroups(Case):

    def test_all_groups(self):
        two, four = Group.cyclic(2), Group.cyclic(4)
        further = {
            4: (two * two,),
            6: (Group.polygon(3),),
            8: (four * two, two * two * two, Group.polygon(4), Group.quaternions()),
        }
        for size in range(1, 9):
            self.gives((Group.cyclic(size),) + further.get(size, ()), all_groups, size)

    def test_one_of_each_kind(self):
        self.assertEqual([len(all_groups(size)) for size in range(1, 9)], [1, 1, 1, 2, 1, 2, 1, 5])
        for size in range(1, 9):
            for one, other in itertools.combinations(all_groups(size), 2):
                self.assertEqual(like_paper(one, other)[0], "orders")

    def test_each_small_group_is_of_a_told_kind(self):
        for group in small_groups():
            if len(group) <= 8:
                papers = [like_paper(group, kind)[0] for kind in all_groups(len(group))]
                self.assertEqual(papers.count("like"), 1)

    def test_all_rows_of_four_things(self):
        """All groups of four things with the unit 0: one is cyclic but for names, or two twos."""
        found = set()
        for rows in itertools.product(itertools.permutations(range(4)), repeat=3):
            rows = ((0, 1, 2, 3),) + rows
            if any(row[0] != a for a, row in enumerate(rows)) or any(len(set(c)) < 4 for c in zip(*rows)):
                continue
            found.add(rows)
        kinds = [[like_paper(Group(rows), kind)[0] for kind in all_groups(4)] for rows in sorted(found)]
        self.assertEqual(len(kinds), 4)
        self.assertEqual(sorted(kinds), [["like", "orders"]] * 3 + [["orders", "like"]])

    def test_wrong_sizes(self):
        for value in some_values() + [0, 9]:
            if not (type(value) is int and 1 <= value <= 8):
                self.refuses(InvalidNumber, value, all_groups, value)

    def test_large_groups_are_alike_only_by_their_own_rows(self):
        """[2.3]: of 16 things, equal orders do not make groups alike; so there is a bound."""
        one, other = Group.cyclic(4) * Group.cyclic(4), Group.quaternions() * Group.cyclic(2)
        self.assertNotEqual(one.is_commutative, other.is_commutative)
        self.assertEqual(counted_orders(one), counted_orders(other))
        self.refuses(TooMany, 12, like_paper, one, other)
        self.assertEqual(len(large_groups()), 8)


if __name__ == "__main__":
    unittest.main()
