"""Stage 8 [8.1] to [8.6]: turn rows by going through likenesses, kinds by leading them to one another."""

import itertools
import unittest

from truenames.double import listing
from truenames.double.doubles import Double
from truenames.double.listing import doubles_on, kept_lots, kind_count, turn_rows, turns_like
from truenames.errors import InvalidGroup, TooMany
from truenames.group.groups import Group, all_groups, like_paper
from tests.helper import SIX, all_moves, renamed_group, some_values
from tests.shown_doubles import moved_double, turn_papers
from tests.wrong import GROUP, WrongCase

TWO, CYCLE = Group.cyclic(2), Group.cyclic(4)
TWOS = TWO * TWO
CYCLE8, FOUR_TWO, THREE_TWOS, POLYGON8, QUATERNIONS = all_groups(8)
CYCLE6 = Group.cyclic(6)
KNOWN = [
    (CYCLE, 2, 2, [(CYCLE, 1), (TWOS, 1)]),
    (TWOS, 4, 2, [(TWOS, 1), (CYCLE, 3)]),
    (CYCLE6, 2, 2, [(CYCLE6, 1), (SIX, 1)]),
    (SIX, 8, 4, [(SIX, 2), (CYCLE6, 6)]),
    (CYCLE8, 6, 5, [(CYCLE8, 2), (FOUR_TWO, 2), (POLYGON8, 1), (QUATERNIONS, 1)]),
    (FOUR_TWO, 28, 14, [(FOUR_TWO, 10), (THREE_TWOS, 2), (POLYGON8, 14), (QUATERNIONS, 2)]),
    (THREE_TWOS, 232, 8, [(THREE_TWOS, 8), (FOUR_TWO, 84), (POLYGON8, 126), (QUATERNIONS, 14)]),
    (POLYGON8, 20, 12, [(POLYGON8, 6), (FOUR_TWO, 6), (THREE_TWOS, 2), (CYCLE8, 4), (QUATERNIONS, 2)]),
    (QUATERNIONS, 28, 8, [(QUATERNIONS, 2), (POLYGON8, 6), (FOUR_TWO, 6), (CYCLE8, 12), (THREE_TWOS, 2)]),
]
KNOWN += [(Group.cyclic(size), 1, 1, [(Group.cyclic(size), 1)]) for size in (1, 2, 3, 5, 7)]


def kept_sums(group, move):
    rows = group.rows
    things = range(len(group))
    return all(move[rows[a][b]] == rows[move[a]][move[b]] for a, b in itertools.product(things, repeat=2))


def likenesses_by_trying(group):
    return [move for move in all_moves(len(group)) if kept_sums(group, move)]


def turn_rows_by_trying(group):
    """By going through all tuples of likenesses."""
    add, things = group.rows, range(len(group))
    pairs = list(itertools.product(things, repeat=2))
    return [
        turns for turns in itertools.product(likenesses_by_trying(group), repeat=len(group))
        if all(turns[add[a][turns[a][b]]] == tuple(turns[a][x] for x in turns[b]) for a, b in pairs)
    ]


def regular_lots(size):
    """All lots of moves, closed under joining, of which just one leads each thing to each other one."""
    told = set()
    free = [move for move in all_moves(size) if all(move[x] != x for x in range(size))]
    makers = [()] + [(one,) for one in free]
    makers += [(one, other) for one in free for other in free if size % 2 == 0 and other < one]
    for lot in makers:
        made = [tuple(range(size))]
        for move in made:
            for maker in lot:
                further = tuple(move[x] for x in maker)
                if further not in made:
                    made.append(further)
            if len(made) > size:
                break
        if len(made) == size and sorted(move[0] for move in made) == list(range(size)):
            told.add(tuple(sorted(made)))
    return told


def joined_group(lot):
    return Group(tuple(tuple(lot.index(tuple(one[x] for x in other)) for other in lot) for one in lot))


def is_kept(group, lot):
    things, rows = range(len(group)), group.rows
    for g in things:
        back = rows[g].index(group.unit)
        for f in lot:
            if tuple(rows[g][f[rows[back][x]]] for x in things) not in lot:
                return False
    return True


def turn_rows_by_lots(plus):
    """Of the lots of moves x to a + f(x) that lead each thing to each other one just once [8.2]."""
    things, add = range(len(plus)), plus.rows
    moves = {tuple(add[a][f[x]] for x in things) for a in things for f in likenesses_of_eight(plus)}
    free = sorted(move for move in moves if leaves_none(move))
    lots = set()
    for one in free:
        waiting = [joined_lot([one])]
        for lot in waiting:
            if len(lot) == len(plus):
                lots.add(lot)
            else:
                # What is joined with one move of the lot must leave no thing, either.
                more = [move for move in free if move not in lot and all(leaves_none(after(had, move)) for had in lot)]
                grown = {joined_lot(lot + (move,)) for move in more if len(lot) == 4 or move > one}
                waiting += sorted(lot for lot in grown if lot is not None and lot not in waiting)
    lots = [lot for lot in lots if all(leaves_none(move) for move in lot if move != tuple(things))]
    minus = [add[a].index(plus.unit) for a in things]
    rows = []
    for lot in lots:
        heads = {move[plus.unit]: move for move in lot}
        rows.append(tuple(tuple(add[minus[a]][heads[a][x]] for x in things) for a in things))
    return sorted(rows)


def after(one, other):
    return tuple([one[x] for x in other])


def leaves_none(move):
    return all([x != y for x, y in enumerate(move)])


def joined_lot(makers):
    """All moves that come of joining, ascending, or None if there are more than eight."""
    made = [tuple(range(8))]
    for move in made:
        for maker in makers:
            further = after(move, maker)
            if further not in made:
                made.append(further)
        if len(made) > 8:
            return None
    return tuple(sorted(made))


class TestListing(WrongCase):

    def test_constant(self):
        self.assertEqual(listing.MAX_LISTED, 8)

    def test_turn_rows_by_trying(self):
        groups = [group for size in range(1, 6) for group in all_groups(size)] + [CYCLE6]
        groups += [renamed_group(CYCLE, (1, 3, 0, 2)), renamed_group(TWOS, (3, 2, 1, 0)), renamed_group(CYCLE6, (5, 3, 1, 0, 2, 4))]
        groups += [SIX, renamed_group(Group.cyclic(3), (1, 0, 2))]
        for group in groups:
            told = turn_rows_by_trying(group)
            self.assertEqual(list(turn_rows(group)), told)
            self.assertEqual(list(turn_rows(group)), sorted(told))

    def test_turn_rows_are_those_of_doubles(self):
        for group, many, _, _ in KNOWN:
            for plus in (group, renamed_group(group, tuple(range(len(group)))[::-1])):
                told = list(turn_rows(plus))
                self.assertEqual(len(told), many)
                self.assertEqual(told, sorted(set(told)))
                for turns in told[::7]:
                    self.assertEqual(turn_papers(plus, turns), [("turns",)])

    def test_turn_rows_of_eight_things(self):
        for plus, many, _, _ in KNOWN:
            if len(plus) != 8:
                continue
            told = turn_rows_by_lots(plus)
            self.assertEqual(len(told), many)
            for _ in range(2):
                self.assertEqual(list(turn_rows(plus)), told)
            for turns in told:
                self.check_turns(plus, turns)
            order = (3, 5, 0, 1, 7, 2, 6, 4)
            places = [order.index(thing) for thing in range(8)]
            moved = [tuple(tuple(places[turns[a][x]] for x in order) for a in order) for turns in told]
            self.assertEqual(list(turn_rows(renamed_group(plus, order))), sorted(moved))

    def check_turns(self, plus, turns):
        """[8.1]: each is a likeness, and the one of a + turn_a(b) is turn_a behind turn_b."""
        for a, turn in enumerate(turns):
            self.assertTrue(kept_sums(plus, turn))
            for b, x in itertools.product(range(8), repeat=2):
                self.assertEqual(turns[plus.rows[a][turn[b]]][x], turn[turns[b][x]])

    def test_two_goings_through_beside_one_another(self):
        for plus in all_groups(8)[1:4]:
            one, other = turn_rows(plus), turn_rows(plus)
            pairs = list(zip(one, other))
            self.assertEqual([first for first, _ in pairs], [second for _, second in pairs])
            self.assertEqual([first for first, _ in pairs], list(turn_rows(plus)))
            self.assertEqual(list(doubles_on(plus)), list(doubles_on(plus)))
            self.assertEqual(kind_count(plus), kind_count(plus))

    def test_kinds_by_leading_doubles_to_one_another(self):
        for group, _, many, _ in KNOWN:
            for plus in (group, renamed_group(group, tuple(range(1, len(group))) + (0,))):
                self.assertEqual(kind_count(plus), many)
                found = list(doubles_on(plus))
                self.assertEqual(len(found), many)
                self.assertEqual(list(doubles_on(plus)), found)
                self.check_kinds(plus, found)

    def check_kinds(self, plus, found):
        moves = [move for move in all_moves(len(plus)) if move[plus.unit] == plus.unit and kept_sums(plus, move)]
        left = set(turn_rows(plus))
        for double in found:
            self.assertEqual(double.plus, plus)
            self.assertEqual(double.turns, min(left))
            for move in moves:
                left.discard(moved_double(double, move).turns)
        self.assertEqual(left, set())

    def test_circles(self):
        """[8.4]"""
        for plus, many, _, circles in KNOWN:
            self.assertEqual(sum(count for _, count in circles), many)
            turned = tuple(range(len(plus)))[::-1]
            for kind in all_groups(len(plus)):
                told = sum(count for circle, count in circles if circle == kind)
                self.assertEqual(turns_like(plus, kind), told)
                if many < 30:
                    self.gives(told, turns_like, renamed_group(plus, turned), kind)
                    self.gives(told, turns_like, plus, renamed_group(kind, turned))

    def test_numbers_of_kinds(self):
        commutative, every = [], []
        for size in range(1, 9):
            groups = all_groups(size)
            every.append(sum(kind_count(group) for group in groups))
            commutative.append(sum(kind_count(group) for group in groups if group.is_commutative))
        self.assertEqual(commutative, [1, 1, 1, 4, 1, 2, 1, 27])
        self.assertEqual(every, [1, 1, 1, 4, 1, 6, 1, 47])

    def test_moves_of_turn_rows(self):
        """[8.2]"""
        for plus in (TWOS, SIX, renamed_group(CYCLE, (1, 3, 0, 2)), POLYGON8):
            for turns in turn_rows(plus):
                lot = {tuple(plus.rows[a][turns[a][x]] for x in range(len(plus))) for a in range(len(plus))}
                self.assertEqual({tuple(one[x] for x in other) for one in lot for other in lot}, lot)
                for x in range(len(plus)):
                    self.assertEqual(sorted(move[x] for move in lot), list(range(len(plus))))
                circle = Double.of_turns(plus, turns).circle
                self.assertEqual(like_paper(joined_group(sorted(lot)), circle)[0], "like")

    def test_kept_lots(self):
        """By going through all lots of moves."""
        for size in range(1, 7):
            lots = regular_lots(size)
            groups = list(all_groups(size)) + [renamed_group(all_groups(size)[-1], tuple(range(size))[::-1])]
            for group in groups:
                kept = [joined_group(lot) for lot in lots if is_kept(group, lot)]
                for kind in groups:
                    told = sum(like_paper(lot, kind)[0] == "like" for lot in kept)
                    self.gives(told, kept_lots, group, kind)

    def test_kept_lots_and_likenesses(self):
        for group, kind in itertools.product(all_groups(8)[::2], repeat=2):
            many = kept_lots(group, kind) * len(likenesses_of_eight(kind))
            self.assertEqual(many, turns_like(kind, group) * len(likenesses_of_eight(group)))

    def test_unlike_sizes(self):
        for one, other in itertools.product([TWO, CYCLE, SIX, CYCLE8, Group.cyclic(1)], repeat=2):
            if len(one) != len(other):
                self.gives(0, turns_like, one, other)
                self.gives(0, kept_lots, one, other)

    def test_what_the_document_says_is_not_true(self):
        """[8.6]"""
        self.assertEqual(sum(like_paper(double.circle, SIX)[0] == "like" for double in doubles_on(SIX)), 2)
        self.assertEqual(turns_like(CYCLE8, THREE_TWOS), 0)
        self.assertTrue(any(not double.circle.is_commutative for double in doubles_on(CYCLE6)))


LIKE = {}


def likenesses_of_eight(group):
    if group.rows not in LIKE:
        LIKE[group.rows] = likenesses_by_trying(group)
    return LIKE[group.rows]


FEW = (TooMany, 8, lambda arguments: all(len(group) <= 8 for group in arguments))
NINE = Group.cyclic(9)


def first_row(plus):
    return next(turn_rows(plus), None)


def first_double(plus):
    return next(doubles_on(plus), None)


class TestWrong(WrongCase):

    def test_one_group(self):
        for call in (first_row, first_double, kind_count):
            found = self.tries(call, [GROUP], [FEW], [()], [NINE, Group.cyclic(24), CYCLE8, [TWO], SIX.rows])
            self.assertEqual(sorted(found), ["InvalidGroup", "TooMany", "none"])

    def test_two_groups(self):
        others = [(TWO, NINE, SIX, None), (TWO, NINE, [SIX])]
        for call in (turns_like, kept_lots):
            found = self.tries(call, [GROUP, GROUP], [FEW], others, [NINE, Group.cyclic(24)])
            self.assertEqual(sorted(found), ["InvalidGroup", "TooMany", "none"])

    def test_generators_wait_with_their_errors(self):
        for call in (turn_rows, doubles_on):
            for value in some_values() + [NINE]:
                waiting = call(value)
                if type(value) is not Group or len(value) > 8:
                    with self.assertRaises(TooMany if type(value) is Group else InvalidGroup):
                        next(waiting)


if __name__ == "__main__":
    unittest.main()
