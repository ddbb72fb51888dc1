"""Stage 10 [10.1] to [10.7]: choices by going through all things, made tables by the sides."""

import itertools
import unittest

from truenames.double import making
from truenames.double.doubles import Double
from truenames.double.making import (
    all_fair, all_quiet, choices_of, choices_paper, is_choices_paper, made, quiet_kinds, stills,
)
from truenames.double.own import is_own, own_double
from truenames.errors import InvalidDouble, InvalidNumber, InvalidOperation, InvalidTable, Refused, TooMany
from truenames.group.groups import Group
from truenames.table.passing import Passing, fair_paper, least_form
from truenames.word.still import own_count
from tests.helper import FOUR, RING, SIX, SWITCH, TURNS, all_lots, all_moves, some_values
from tests.quiet import BLOCKS, LARGE, QUIET, quiet_of_size
from tests.shown_doubles import SMALL_DOUBLES, mirrored, minus, moved_double, multiples_of
from tests.test_own import MOST_OWN, TOO_MUCH
from tests.wrong import DOUBLE, QUIET as THEN_QUIET, TABLE, THING, VALUE, WrongCase, lot_of

PLUS = (Refused, ("plus",), lambda arguments: arguments[0].plus.is_commutative)
ABOUT = Double.about(SIX)
TURNED = RING.renamed((2, 0, 3, 1))
EIGHT = multiples_of(8, 2)
SHOWN = [double for double in SMALL_DOUBLES if len(double) <= 8 and double.plus.is_commutative]
SHOWN += [TURNED, EIGHT, moved_double(EIGHT, (3, 1, 4, 0, 5, 7, 2, 6)), mirrored(6)]


def parts_of_circle(double):
    """All parts of circle, found by trying all lots, or told by the group."""
    rows = double.circle.rows
    if len(double) > 4:
        return double.circle.parts()
    return [
        lot for lot in all_lots(len(double))
        if double.unit in lot and all(rows[a][b] in lot for a in lot for b in lot)
    ]


def all_choices(double):
    """All pairs of a thing and a part that leaves it."""
    return [
        (a, part) for a in range(len(double)) for part in parts_of_circle(double)
        if all(double.turns[b][a] == a for b in part)
    ]


def turned(double, choices):
    return {double.turns[b][a] for a, _ in choices for b in range(len(double))}


def is_lack(double, choices, lot):
    rows = double.plus.rows
    return (
        len(lot) < len(double) and double.unit in lot and turned(double, choices) <= set(lot)
        and all(rows[a][b] in lot for a in lot for b in lot)
    )


def core_of(double, choices):
    """By going through all b and k, things of all b o k o c."""
    rows, back = double.circle.rows, minus(double.circle)
    core = set(range(len(double)))
    for _, part in choices:
        for b in range(len(double)):
            core &= {rows[rows[b][k]][back[b]] for k in part}
    return core


def is_right(double, choices, lots, value):
    word = value[0]
    if word == "lack":
        return is_lack(double, choices, value[1])
    if word == "core":
        return value[1] != double.unit and value[1] in core_of(double, choices)
    return core_of(double, choices) == {double.unit} and not any(is_lack(double, choices, lot) for lot in lots)


def first_paper(double, choices, lots):
    lacks = [lot for lot in lots if is_lack(double, choices, lot)]
    if is_right(double, choices, lots, ("own",)):
        return ("own",)
    if lacks:
        return ("lack", min(lacks, key=len))
    return ("core", min(core_of(double, choices) - {double.unit}))


def lots_of(double):
    """Lots that can be lacks: all lots, or all parts of plus."""
    return all_lots(len(double)) if len(double) <= 4 else double.plus.parts()


def sides_of(double, part):
    rows = double.circle.rows
    sides = {tuple(sorted(rows[b][k] for k in part)) for b in range(len(double))}
    return sorted(sides, key=min)


def made_left(double, choices):
    """The L of the made table, for each side by each of its things."""
    rows = double.circle.rows
    letters = [(at, side) for at, choice in enumerate(choices) for side in sides_of(double, choice[1])]
    left = []
    for at, side in letters:
        moves = set()
        for b in side:
            g = double.turns[b][choices[at][0]]
            goals = [
                (place, tuple(sorted({rows[g][c] for c in other}))) for place, other in letters
            ]
            moves.add(tuple(letters.index(goal) for goal in goals))
        assert len(moves) == 1
        left.append(moves.pop())
    return tuple(left)


def drawn_choices(double):
    """Some tuples of choices: none, one and two, and more."""
    pairs = all_choices(double)
    some = [()] + [(pair,) for pair in pairs]
    some += [(one, other) for one in pairs[::3] for other in pairs[1::4]]
    some += [tuple(pairs[::4][:3]), tuple(pairs[-3:]), (pairs[0],) * 8]
    return some[::1 if len(double) <= 4 else 5]


class TestChoices(WrongCase):

    def test_constants(self):
        self.assertEqual((making.MAX_CHOICES, making.MAX_QUIET, making.MAX_FAIR), (8, 4, 3))

    def test_stills(self):
        for double in SMALL_DOUBLES:
            for thing in range(len(double)):
                if not double.plus.is_commutative:
                    self.refuses(Refused, ("plus",), stills, double, thing)
                    continue
                told = tuple(b for b in range(len(double)) if double.turns[b][thing] == thing)
                self.gives(told, stills, double, thing)
                self.assertEqual(double.circle.closure(told), told)

    def test_papers(self):
        words = set()
        for double in SHOWN:
            lots = lots_of(double)
            for choices in drawn_choices(double):
                told = first_paper(double, choices, lots)
                self.gives(told, choices_paper, double, choices)
                words.add(told[0])
                papers = [("own",)] + [("core", thing) for thing in range(-1, len(double) + 1)]
                papers += [("lack", lot) for lot in lots[::1 if len(double) <= 4 else 2]]
                for paper in papers:
                    right = paper != ("core", -1) and is_right(double, choices, lots, paper)
                    self.assertIs(is_choices_paper(double, choices, paper), right, (choices, paper))
        self.assertEqual(words, {"own", "core", "lack"})

    def test_all_choices_of_four_things(self):
        """Every pair of a thing and a lot, right ones and others."""
        for double in (RING, TURNED):
            right = all_choices(double)
            for pair in itertools.product(range(-1, 5), all_lots(4) + [(0, 0), (2, 0), (0, 4)]):
                if pair in right:
                    choices_paper(double, (pair,))
                    continue
                for call in (choices_paper, made):
                    self.refuses(InvalidOperation, None, call, double, (pair,))
                self.refuses(InvalidOperation, None, is_choices_paper, double, (pair,), None)

    def test_near_choices(self):
        for wrong in (
            ((1, (0,)),) * 9, [(1, (0,))], ([1, (0,)],), ((1, [0]),), ((True, (0,)),), ((1, (False,)),), ((1, ()),),
            ((1, (0,), 0),), ((1,),), (1, (0,)), ((1, (2,)),), ((1, (0, 1)),), ((2, (0, 3)), (1, (0, 1))), None, ((),),
        ):
            for call in (choices_paper, made):
                self.refuses(InvalidOperation, None, call, RING, wrong)
                if wrong != ((1, (0, 1)),):
                    self.refuses(InvalidOperation, None, call, ABOUT, wrong)
            self.refuses(InvalidOperation, None, is_choices_paper, RING, wrong, ("own",))

    def test_near_papers(self):
        choices = ((1, (0, 2)),)
        self.assertIs(is_choices_paper(RING, choices, ("core", 2)), True)
        for wrong in (("core", 2, 0), ["core", 2], ("core",), ("core", (2,)), ("core", 0), ("lack", 2), ("cores", 2), None):
            self.assertIs(is_choices_paper(RING, choices, wrong), False)
        choices = ((2, (0,)),)
        self.assertIs(is_choices_paper(RING, choices, ("lack", (0, 2))), True)
        for wrong in (
            ("lack", [0, 2]), ("lack", (2, 0)), ("lack", (False, 2)), ("lack", (0, 2), ()), ("lack", (0, 2, 2)), ["lack", (0, 2)],
            ("lack", (0, 1, 2, 3)), ("lack", ()), ("lack",), ("lacks", (0, 2)), ("own",), ("lack", (0, 2, 4)), ("lack", (2,)),
        ):
            self.assertIs(is_choices_paper(RING, choices, wrong), False)
        choices = ((1, (0,)),)
        self.assertIs(is_choices_paper(RING, choices, ("own",)), True)
        for wrong in (["own"], ("own", 0), "own", ("core", 2), ("lack", (0, 2)), ("owns",)):
            self.assertIs(is_choices_paper(RING, choices, wrong), False)
        for value in some_values():
            for choices in ((), ((1, (0,)),), ((1, (0, 2)),), ((2, (0,)),)):
                self.assertIs(is_choices_paper(RING, choices, value), False)
        unit = Double.both(Group.cyclic(1))
        self.gives(("own",), choices_paper, unit, ())
        self.gives(("own",), choices_paper, unit, ((0, (0,)),))
        self.assertIs(is_choices_paper(unit, (), ("core", 0)), False)
        self.assertIs(is_choices_paper(unit, (), ("lack", (0,))), False)
        two = Double.both(Group(((1, 0), (0, 1))))
        self.gives(("lack", (1,)), choices_paper, two, ())
        self.assertIs(is_choices_paper(two, (), ("core", 0)), True)
        self.assertIs(is_choices_paper(two, (), ("core", False)), False)
        self.gives(("own",), choices_paper, two, ((0, (1,)),))
        self.gives(("core", 0), choices_paper, two, ((0, (0, 1)),))


class TestMade(WrongCase):

    def test_made_tables(self):
        sizes = set()
        for double in SHOWN:
            for choices in drawn_choices(double):
                left = made_left(double, choices)
                if len(left) > 8:
                    self.refuses(TooMany, 8, made, double, choices)
                    continue
                table = made(double, choices)
                self.assertEqual(table.left, left)
                self.gives(table, made, double, choices)
                self.assertTrue(table.is_quiet)
                sizes.add(len(table))
                self.check_own(double, choices, table)
        self.assertEqual(sizes, set(range(9)))

    def check_own(self, double, choices, table):
        """[10.4]: the made table has this own double exactly if its paper is ("own",)."""
        letters = [(choice[0], side) for choice in choices for side in sides_of(double, choice[1])]
        names = tuple(double.turns[side[0]][a] for a, side in letters)
        right = own_count(table) <= 24 and is_own(table, double, names)
        self.assertEqual(right, choices_paper(double, choices) == ("own",))

    def test_tables_of_eight_letters_and_nine(self):
        table = made(RING, ((1, (0,)), (2, (0,))))
        self.assertEqual(len(table), 8)
        self.assertEqual(len(made(EIGHT, ((1, (0,)),))), 8)
        self.refuses(TooMany, 8, made, RING, ((1, (0,)), (2, (0,)), (0, (0, 1, 2, 3))))
        nine = multiples_of(9, 3)
        self.refuses(TooMany, 8, made, nine, ((1, (0,)),))
        self.assertEqual(len(made(nine, ((0, (0, 3, 6)),))), 3)
        self.assertEqual(made(RING, ()), Passing.unmoved(0))

    def test_choices_of_tables(self):
        for table in QUIET + [MOST_OWN]:
            if own_count(table) > 24:
                self.refuses(TooMany, 24, choices_of, table)
                continue
            choices = choices_of(table)
            self.gives(choices, choices_of, table)
            double, names = own_double(table)
            self.assertEqual(choices_paper(double, choices), ("own",))
            self.check_kind(table, double, choices)
            leasts = [x for x in range(len(table)) if min(self.orbit(table, x)) == x]
            self.assertEqual([a for a, _ in choices], [names[x] for x in leasts])
            for x, (_, part) in zip(leasts, choices):
                self.assertEqual(len(part) * len(self.orbit(table, x)), len(double))

    def check_kind(self, table, double, choices):
        """The letter to which the move of b leads x is the side of b, of the choice of the orbit of x."""
        other = made(double, choices)
        if len(table) <= 5:
            self.assertEqual(least_form(other), least_form(table))
        order = []
        moves = self.moves_of(table, double)
        leasts = [x for x in range(len(table)) if min(self.orbit(table, x)) == x]
        for x, (_, part) in zip(leasts, choices):
            for side in sides_of(double, part):
                goals = {moves[b][x] for b in side}
                self.assertEqual(len(goals), 1)
                order.append(goals.pop())
        self.assertEqual(table.renamed(tuple(order)), other)

    def moves_of(self, table, double):
        """The moves of all things, by joining those of names: circle of a name and a thing."""
        names = own_double(table)[1]
        moves = {double.unit: tuple(range(len(table)))}
        waiting = [double.unit]
        for here in waiting:
            for letter, name in enumerate(names):
                there = double.circle.rows[name][here]
                if there not in moves:
                    moves[there] = tuple(table.left[letter][x] for x in moves[here])
                    waiting.append(there)
        return moves

    def orbit(self, table, start):
        found = [start]
        for here in found:
            found += [move[here] for move in table.left if move[here] not in found]
            found = list(dict.fromkeys(found))
        while True:
            more = {move[x] for move in table.left for x in found} | set(found)
            if len(more) == len(found):
                return sorted(found)
            found = sorted(more)


def words_pass_alike(rows):
    """Whether all moves are moves, and three letters become the same in both ways of passing."""
    letters = range(len(rows))
    for x in letters:
        if len({rows[x][y][0] for y in letters}) < len(rows) or len({rows[y][x][1] for y in letters}) < len(rows):
            return False
    for word in itertools.product(letters, repeat=3):
        ends = []
        for indices in ((0, 1, 0), (1, 0, 1)):
            here = word
            for at in indices:
                here = here[:at] + rows[here[at]][here[at + 1]] + here[at + 2:]
            ends.append(here)
        if ends[0] != ends[1]:
            return False
    return True


def names_agree(left, x, y, u, v):
    """Whether L of x and y, joined, are those of u and v."""
    return all(left[x][left[y][z]] == left[u][left[v][z]] for z in range(len(left)))


class TestLists(WrongCase):

    def test_quiet_tables(self):
        for size, many in enumerate((1, 1, 2, 12, 168)):
            told = list(all_quiet(size))
            self.assertEqual(len(told), many)
            self.assertEqual(list(all_quiet(size)), told)
            rows = [table.rows for table in told]
            self.assertEqual(rows, sorted(rows))
            self.assertTrue(all(one < other for one, other in itertools.pairwise(rows)))
            self.assertTrue(all(type(table) is Passing and table.is_quiet and len(table) == size for table in told))
            if size < 4:
                self.assertEqual(rows, sorted(table.rows for table in quiet_of_size(size)))
        for table in (FOUR, BLOCKS, SWITCH * SWITCH):
            self.assertIn(table, list(all_quiet(4)))

    def test_kinds(self):
        for size, many in enumerate((1, 1, 2, 5, 23)):
            kinds = quiet_kinds(size)
            self.gives(kinds, quiet_kinds, size)
            firsts = {}
            for table in all_quiet(size):
                firsts.setdefault(least_form(table), table)
            self.assertEqual(kinds, tuple(firsts.values()))
            self.assertEqual(len(kinds), many)

    def test_fair_tables(self):
        for size, many in enumerate((1, 1, 4, 66)):
            told = list(all_fair(size))
            rows = [table.rows for table in told]
            self.assertEqual(len(told), many)
            self.assertTrue(all(one < other for one, other in itertools.pairwise(rows)))
            self.assertTrue(all(type(table) is Passing and len(table) == size for table in told))
            self.assertTrue({table.rows for table in quiet_of_size(size)} <= set(rows))
        pairs = list(itertools.product(range(2), repeat=2))
        tried = [(flat[:2], flat[2:]) for flat in itertools.product(pairs, repeat=4)]
        self.assertEqual([table.rows for table in all_fair(2)], sorted(rows for rows in tried if fair_paper(rows) == ("fair",)))
        told = list(all_fair(3))
        for table, order in itertools.product((TURNS, TURNS.passed_back(), TURNS.mirrored()), all_moves(3)):
            self.assertIn(table.renamed(order), told)

    def test_all_fair_tables_of_three_letters(self):
        """By going through all L and R: 6 to the power of 6 tables."""
        told = []
        for left in itertools.product(all_moves(3), repeat=3):
            for right in itertools.product(all_moves(3), repeat=3):
                rows = tuple(tuple((left[x][y], right[y][x]) for y in range(3)) for x in range(3))
                if words_pass_alike(rows):
                    told.append(rows)
        self.assertEqual(len(told), 66)
        self.check_list(all_fair, 3, sorted(told))

    def test_all_quiet_tables_of_four_letters(self):
        """By going through all L, 24 to the power of 4, of which each tells all R."""
        told = []
        places = list(itertools.product(range(4), repeat=2))
        for left in itertools.product(all_moves(4), repeat=4):
            # x and y become u and v, and u and v become x and y: so L of u leads v to x.
            pairs = {(x, y): (left[x][y], left[left[x][y]].index(x)) for x, y in places[:5]}
            if all(names_agree(left, x, y, *pair) for (x, y), pair in pairs.items()):
                rows = tuple(tuple((u, left[u].index(x)) for u in left[x]) for x in range(4))
                if words_pass_alike(rows):
                    told.append(rows)
        self.assertEqual(len(told), 168)
        self.check_list(all_quiet, 4, sorted(told))
        self.check_kinds(sorted(told))

    def check_list(self, call, size, told):
        """Gone through twice, and beside one another, a list is the same."""
        self.assertEqual([table.rows for table in call(size)], told)
        one, other = call(size), call(size)
        self.assertEqual([(next(one).rows, next(other).rows) for _ in told], [(rows, rows) for rows in told])
        self.assertEqual((list(one), list(other)), ([], []))
        self.assertTrue(all(type(table) is Passing for table in call(size)))

    def check_kinds(self, told):
        """The first table of each kind, found by giving its letters all other names."""
        firsts, seen = [], set()
        for rows in told:
            if rows not in seen:
                firsts.append(rows)
            for order in all_moves(4):
                back = [order.index(x) for x in range(4)]
                seen.add(tuple(tuple(tuple(back[z] for z in rows[x][y]) for y in order) for x in order))
        self.assertEqual(len(firsts), 23)
        for _ in range(2):
            self.assertEqual([table.rows for table in quiet_kinds(4)], firsts)

    def test_own_doubles_make_the_kinds(self):
        """[10.6]"""
        for table in all_quiet(4):
            self.assertEqual(least_form(made(own_double(table)[0], choices_of(table))), least_form(table))

    def test_wrong_sizes(self):
        for value in some_values() + [4, 5, -1]:
            right = type(value) is int and value in range(5)
            for call in (all_quiet, quiet_kinds):
                if not right:
                    self.refuses(InvalidNumber, value, lambda size: next(iter(call(size))), value)
            if not right or value == 4:
                self.refuses(InvalidNumber, value, lambda size: next(all_fair(size)), value)

    def test_generators_wait_with_their_errors(self):
        for call in (all_quiet, all_fair):
            waiting = call(5)
            with self.assertRaises(InvalidNumber):
                next(waiting)

    def test_what_the_document_says_is_not_true(self):
        """[10.7]"""
        one, other = made(RING, ((1, (0, 2)), (2, (0, 1)))), made(RING, ((1, (0,)),))
        self.assertNotEqual(least_form(one), least_form(other))
        self.assertEqual(made(RING, ((1, (0,)),)), made(RING, ((3, (0,)),)).renamed((0, 3, 2, 1)))
        self.assertEqual(len(LARGE[0]), 8)


def right_choices(value, arguments):
    double = arguments[0]
    if type(value) is not tuple or len(value) > 8:
        return False
    for pair in value:
        if type(pair) is not tuple or len(pair) != 2 or type(pair[0]) is not int or not lot_of(pair[1], len(double)):
            return False
        if pair not in all_choices(double):
            return False
    return True


CHOICES = (InvalidOperation, False, right_choices)
SMALL_ENOUGH = (TooMany, 8, lambda told: sum(len(sides_of(told[0], part)) for _, part in told[1]) <= 8)
DOUBLES = (RING, ABOUT, multiples_of(9, 3), None)
GIVEN = ((), ((1, (0,)),), ((1, (0,)),) * 3, ((0, (0, 1)),), [(1, (0,))])


class TestWrong(WrongCase):

    def test_stills(self):
        found = self.tries(stills, [DOUBLE, THING], [PLUS], [DOUBLES, (0, 3, 8, True)])
        self.assertEqual(sorted(found), ["InvalidDouble", "InvalidNumber", "Refused", "none"])

    def test_choices(self):
        names = ["InvalidDouble", "InvalidOperation", "Refused", "none"]
        more = [((1, (0, 2)),), ((1, (0, 1)),), ((True, (0,)),)]
        self.assertEqual(sorted(self.tries(choices_paper, [DOUBLE, CHOICES], [PLUS], [DOUBLES, GIVEN], more)), names)
        found = self.tries(is_choices_paper, [DOUBLE, CHOICES, VALUE], [PLUS], [DOUBLES, GIVEN, (None, ("own",))], more)
        self.assertEqual(sorted(found), names)
        found = self.tries(made, [DOUBLE, CHOICES], [PLUS, SMALL_ENOUGH], [DOUBLES, GIVEN], more)
        self.assertEqual(sorted(found), names[:3] + ["TooMany", "none"])

    def test_tables(self):
        few = (TooMany, 24, lambda arguments: own_count(arguments[0]) <= 24)
        found = self.tries(choices_of, [TABLE], [THEN_QUIET, few], [()], [TOO_MUCH, MOST_OWN])
        self.assertEqual(sorted(found), ["InvalidTable", "Refused", "TooMany", "none"])
        self.refuses(InvalidTable, None, choices_of, RING)
        self.refuses(InvalidDouble, None, made, SWITCH, ())


if __name__ == "__main__":
    unittest.main()
