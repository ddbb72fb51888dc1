"""Stage 17 [17.1] to [17.6]: joins by the rows of pairs, likenesses by going through all moves."""

import itertools
import random
import unittest

from truenames.double import joins
from truenames.double.doubles import Double
from truenames.double.ideals import is_ideal, is_left_part, quotient_of
from truenames.double.joins import (
    double_form, double_likenesses, is_join_paper, is_like_double_paper, join, join_paper, least_double,
    like_double_paper,
)
from truenames.double.listing import doubles_on
from truenames.errors import InvalidDouble, InvalidMove, Refused, TooMany
from truenames.group.groups import Group, all_groups, like_paper, likenesses
from tests.helper import RING, SIX, all_moves, some_values
from tests.shown_doubles import LARGE_DOUBLES, SMALL_DOUBLES, mirrored, moved_double, multiples_of
from tests.test_ideals import FEW
from tests.wrong import DOUBLE, VALUE, WrongCase, move_of_size

ONE, TWO, THREE = [Double.both(Group.cyclic(size)) for size in (1, 2, 3)]
FOUR_RING = Double.both(Group.cyclic(4))
TWOS = Double.both(Group.cyclic(2) * Group.cyclic(2))
BOTH, ABOUT = Double.both(SIX), Double.about(SIX)
TURNED = moved_double(RING, (1, 0, 3, 2))
KINDS = [double for size in range(1, 9) for plus in all_groups(size) for double in doubles_on(plus)]


def leads_sums(one, other, move):
    """Whether a move leads both sums of a double to those of another one."""
    for first, second in ((one.plus.rows, other.plus.rows), (one.circle.rows, other.circle.rows)):
        for a, b in itertools.product(range(len(one)), repeat=2):
            if move[first[a][b]] != second[move[a]][move[b]]:
                return False
    return True


def likenesses_by_trying(one, other):
    """Of all moves that lead the unit to the unit."""
    if len(one) != len(other):
        return []
    return [move for move in all_moves(len(one)) if move[one.unit] == other.unit and leads_sums(one, other, move)]


def acts_papers(one, other, acts):
    """All right papers about acts, in the order of the document."""
    papers = []
    for a, x, y in itertools.product(range(len(one)), range(len(other)), range(len(other))):
        act = acts[a]
        sums = [(rows[x][y], rows[act[x]][act[y]]) for rows in (other.plus.rows, other.circle.rows)]
        if any(act[told] != led for told, led in sums):
            papers.append(("likeness", a, x, y))
    for a, b in itertools.product(range(len(one)), repeat=2):
        if acts[one.circle.rows[a][b]] != tuple(acts[a][x] for x in acts[b]):
            papers.append(("joined", a, b))
    return papers or [("join",)]


def join_by_pairs(one, other, acts):
    """The rows of both sums, pair by pair."""
    pairs = list(itertools.product(range(len(one)), range(len(other))))
    plus, circle = [], []
    for a, x in pairs:
        plus.append(tuple(pairs.index((one.plus.rows[a][b], other.plus.rows[x][y])) for b, y in pairs))
        circle.append(tuple(pairs.index((one.circle.rows[a][b], other.circle.rows[x][acts[a][y]])) for b, y in pairs))
    return Double(Group(tuple(plus)), Group(tuple(circle)))


def least_by_trying(double):
    """The least rows of all renamed doubles, with the unit as 0."""
    things = range(len(double))
    best = None
    for order in all_moves(len(double)):
        if order[0] == double.unit:
            name = {thing: index for index, thing in enumerate(order)}
            plus, circle = (
                tuple(tuple(name[group.rows[order[a]][order[b]]] for b in things) for a in things)
                for group in (double.plus, double.circle)
            )
            if best is None or (plus, circle) < best:
                best = (plus, circle)
    return best


def form_of(plus, circle):
    return " ".join(str(thing) for rows in (plus, circle) for row in rows for thing in row)


def moves_of_one_sum(double):
    """Moves that keep plus and not circle, and moves that keep circle and not plus."""
    found = []
    for group in (double.plus, double.circle):
        kept = [move for move in likenesses(group) if not leads_sums(double, double, move)]
        found += kept[:2] + kept[-1:]
    return found


def some_acts(one, other):
    """Idle acts, those in which two things act by turns, all likenesses in turn, and changed ones."""
    idle = tuple(range(len(other)))
    moves = likenesses_by_trying(other, other) if len(other) <= 6 else list(double_likenesses(other))
    yield (idle,) * len(one)
    for move in moves[:4] + moves[-2:]:
        yield tuple(move if a % 2 else idle for a in range(len(one)))
        yield tuple(move if a >= len(one) // 2 else idle for a in range(len(one)))
    yield tuple(moves[a % len(moves)] for a in range(len(one)))
    for move in moves_of_one_sum(other):
        yield tuple(move if a % 2 else idle for a in range(len(one)))
        yield (move,) * len(one)
    for at in range(len(one)):
        yield (idle,) * at + (idle[::-1],) + (idle,) * (len(one) - at - 1)
        yield (idle,) * at + (idle[1:] + idle[:1],) + (idle,) * (len(one) - at - 1)


class TestJoins(WrongCase):

    def check_acts(self, one, other, acts):
        papers = acts_papers(one, other, acts)
        first = min(paper for paper in papers if paper[0] == min([told[0] for told in papers], key=("likeness", "joined", "join").index))
        self.gives(first, join_paper, one, other, acts)
        right = set(papers)
        for a, x, y in itertools.product(range(-1, len(one) + 1), range(-1, len(other) + 1), range(-1, len(other) + 1)):
            paper = ("likeness", a, x, y)
            self.assertIs(is_join_paper(one, other, acts, paper), paper in right)
        for a, b in itertools.product(range(-1, len(one) + 1), repeat=2):
            self.assertIs(is_join_paper(one, other, acts, ("joined", a, b)), ("joined", a, b) in right)
        self.assertIs(is_join_paper(one, other, acts, ("join",)), papers == [("join",)])
        if papers != [("join",)]:
            self.refuses(Refused, first, join, one, other, acts)
        elif len(one) * len(other) > 24:
            self.refuses(TooMany, 24, join, one, other, acts)
        else:
            self.check_join(one, other, acts)
        return first[0]

    def check_join(self, one, other, acts):
        told = join_by_pairs(one, other, acts)
        self.gives(told, join, one, other, acts)
        if all(act == tuple(range(len(other))) for act in acts):
            self.assertEqual(told, one * other)
        seconds = tuple(one.unit * len(other) + x for x in range(len(other)))
        firsts = tuple(a * len(other) + other.unit for a in range(len(one)))
        self.assertTrue(is_ideal(told, seconds))
        self.assertTrue(is_left_part(told, firsts))
        quotient, _ = quotient_of(told, seconds)
        if len(one) <= 8:
            self.assertEqual(like_double_paper(quotient, one)[0], "like")

    def test_joins(self):
        words = []
        some = [ONE, TWO, THREE, FOUR_RING, TWOS, RING, TURNED, BOTH, mirrored(6), ABOUT]
        for one, other in itertools.product(some, repeat=2):
            if len(one) * len(other) <= 24:
                words += [self.check_acts(one, other, acts) for acts in some_acts(one, other)]
        self.assertEqual(set(words), {"join", "likeness", "joined"})
        self.assertGreater(words.count("join"), 100)

    def test_acts_that_keep_one_sum_alone(self):
        """Neither plus nor circle is enough for a likeness."""
        found = set()
        for other in [RING, TURNED, mirrored(6), multiples_of(8, 2)] + list(doubles_on(TWOS.plus)):
            for move in moves_of_one_sum(other):
                found.add(tuple(leads_sums(both, both, move) for both in (Double.both(other.plus), Double.both(other.circle))))
                acts = (tuple(range(len(other))), move)
                told = acts_papers(TWO, other, acts)[0]
                self.assertEqual(told[0], "likeness")
                self.gives(told, join_paper, TWO, other, acts)
                self.refuses(Refused, told, join, TWO, other, acts)
        self.assertEqual(found, {(True, False), (False, True)})

    def test_all_acts_of_few_things(self):
        for one, other in ((TWO, THREE), (THREE, TWO), (TWO, TWO), (ONE, THREE), (THREE, THREE)):
            found = []
            for acts in itertools.product(all_moves(len(other)), repeat=len(one)):
                found.append(self.check_acts(one, other, acts))
            self.assertIn("join", found)

    def test_bounds(self):
        twelve = Double.both(Group.cyclic(12))
        idle = (tuple(range(12)),) * 2
        self.assertEqual(join(TWO, twelve, idle), TWO * twelve)
        self.refuses(TooMany, 24, join, THREE, twelve, idle + idle[:1])
        self.refuses(Refused, ("likeness", 0, 0, 0), join, THREE, twelve, (tuple(range(12))[::-1],) * 3)
        self.gives(("join",), join_paper, LARGE_DOUBLES[3], LARGE_DOUBLES[-1], (tuple(range(24)),) * len(LARGE_DOUBLES[3]))
        self.gives(ONE, join, ONE, ONE, ((0,),))

    def test_near_papers(self):
        acts = ((0, 1, 2), (1, 0, 2))
        self.assertIs(is_join_paper(TWO, THREE, acts, ("likeness", 1, 0, 0)), True)
        for wrong in (
            ("likeness", True, 0, 0), ("likeness", 1, False, 0), ["likeness", 1, 0, 0], ("likeness", 1, 0), ("like", 1, 0, 0),
            ("likeness", 1, 0, 0, 0), ("likeness", 0, 0, 0), ("likeness", 2, 0, 0), ("likeness", 1, 3, 0), ("join",), None,
            ("likeness", -1, 0, 0), ("likeness", (1, 0, 0)),
        ):
            self.assertIs(is_join_paper(TWO, THREE, acts, wrong), False, wrong)
        acts = ((0, 1, 2), (0, 2, 1), (0, 1, 2))
        self.assertIs(is_join_paper(THREE, THREE, acts, ("joined", 1, 2)), True)
        for wrong in (("joined", True, 2), ["joined", 1, 2], ("joined", 1), ("joined", 1, 2, 0), ("joined", 1, 3), ("join",), ("joined", 0, 0)):
            self.assertIs(is_join_paper(THREE, THREE, acts, wrong), False, wrong)
        acts = ((0, 1, 2), (0, 2, 1))
        for wrong in (["join"], ("join", 0), "join", ("joined", 1, 1), ("likeness", 1, 0, 0), ("joins",)):
            self.assertIs(is_join_paper(TWO, THREE, acts, wrong), False, wrong)
        for value in some_values():
            for told in (acts, ((0, 1, 2), (1, 0, 2)), ((0, 2, 1), (0, 1, 2))):
                self.assertIs(is_join_paper(TWO, THREE, told, value), False)

    def test_what_the_document_says_is_not_true(self):
        """[17.6]"""
        for first, second in ((BOTH.plus, ABOUT.plus), (BOTH.circle, ABOUT.circle)):
            self.assertEqual(like_paper(first, second)[0], "like")
        self.assertEqual(like_double_paper(BOTH, ABOUT)[0], "forms")
        self.assertFalse(join(TWO, THREE, ((0, 1, 2), (0, 2, 1))).is_plain)
        self.assertTrue(TWO.is_plain and THREE.is_plain)


class TestForms(WrongCase):

    def test_forms(self):
        for double in SMALL_DOUBLES + LARGE_DOUBLES[::4]:
            self.gives(form_of(double.plus.rows, double.circle.rows), double_form, double)

    def test_least_doubles(self):
        for double in [double for double in FEW if len(double) <= 6] + KINDS[:13]:
            plus, circle = least_by_trying(double)
            told = least_double(double)
            self.assertEqual((told.plus.rows, told.circle.rows), (plus, circle))
            self.gives(told, least_double, double)
            self.assertEqual(told.unit, 0)

    def test_least_doubles_of_eight_things(self):
        source = random.Random(171)
        for double in [double for double in KINDS if len(double) == 8][::6]:
            plus, circle = least_by_trying(double)
            for _ in range(3):
                order = tuple(source.sample(range(8), 8))
                told = least_double(moved_double(double, order))
                self.assertEqual((told.plus.rows, told.circle.rows), (plus, circle))

    def test_least_doubles_tell_kinds(self):
        """[17.5]: the doubles of each number of things, one of each kind, have unlike least doubles."""
        source = random.Random(172)
        forms = {}
        for double in KINDS:
            order = tuple(source.sample(range(len(double)), len(double)))
            told = least_double(double)
            self.assertEqual(least_double(moved_double(double, order)), told)
            self.assertEqual(least_double(told), told)
            self.assertNotIn(double_form(told), forms)
            forms[double_form(told)] = double
        self.assertEqual(len(forms), 1 + 1 + 1 + 4 + 1 + 6 + 1 + 47)

    def test_bounds(self):
        eight, nine = multiples_of(8, 2), multiples_of(9, 3)
        self.assertEqual(len(least_double(eight)), 8)
        self.refuses(TooMany, 8, least_double, nine)
        for one, other in ((nine, eight), (eight, nine), (nine, nine), (TWO, nine)):
            self.refuses(TooMany, 8, like_double_paper, one, other)
            self.refuses(TooMany, 8, is_like_double_paper, one, other, ("like", (0, 1)))


class TestLikenesses(WrongCase):

    def test_papers(self):
        some = [double for double in FEW + KINDS[:14] if len(double) <= 6][::3] + [TURNED, RING, TWOS, BOTH, ABOUT]
        found = set()
        for one, other in itertools.product(some, repeat=2):
            moves = likenesses_by_trying(one, other)
            paper = like_double_paper(one, other)
            self.gives(paper, like_double_paper, one, other)
            self.assertIs(is_like_double_paper(one, other, paper), True)
            found.add(paper[0])
            forms = ("forms", form_of(*least_by_trying(one)), form_of(*least_by_trying(other)))
            if moves:
                self.assertEqual(paper[0], "like")
                self.assertIn(paper[1], moves)
            else:
                self.assertEqual(paper, forms)
            self.assertIs(is_like_double_paper(one, other, forms), not moves)
            for move in all_moves(min(len(one), 4)):
                self.assertIs(is_like_double_paper(one, other, ("like", move)), move in moves)
        self.assertEqual(found, {"like", "forms"})

    def test_renamed_doubles(self):
        source = random.Random(173)
        for double in KINDS[::2]:
            order = tuple(source.sample(range(len(double)), len(double)))
            other = double.renamed(order)
            word, move = like_double_paper(double, other)
            self.assertEqual(word, "like")
            self.assertTrue(leads_sums(double, other, move))
            back = tuple(order.index(thing) for thing in range(len(double)))
            self.assertIs(is_like_double_paper(double, other, ("like", back)), True)
            self.assertIs(is_like_double_paper(double, other, ("like", order)), leads_sums(double, other, order))

    def test_kinds_are_unlike(self):
        for one, other in itertools.combinations(KINDS[::5], 2):
            paper = like_double_paper(one, other)
            self.assertEqual(paper[0], "forms")
            self.assertNotEqual(paper[1], paper[2])
            self.assertIs(is_like_double_paper(one, other, paper), True)
            self.assertIs(is_like_double_paper(one, other, ("forms", paper[2], paper[1])), False)

    def test_near_papers(self):
        self.assertIs(is_like_double_paper(TWO, TWO, ("like", (0, 1))), True)
        for wrong in (
            ("like", [0, 1]), ["like", (0, 1)], ("like", (False, 1)), ("like", (0, True)), ("like", (0, 1), 0), ("like",),
            ("likes", (0, 1)), ("like", (1, 0)), ("like", (0, 1, 2)), ("like", 0, 1), ("like", ()), None,
            ("forms", double_form(TWO), double_form(TWO)),
        ):
            self.assertIs(is_like_double_paper(TWO, TWO, wrong), False, wrong)
        told = like_double_paper(TWO, THREE)
        for wrong in (
            list(told), told[:2], told + (0,), ("form",) + told[1:], (told[0], told[2], told[1]), (told[0], told[1] + " ", told[2]),
            (told[0], told[1], told[2][:-1]), (told[0], told[1], None), ("like", (0, 1)), ("like", (0, 1, 2)), (told[0], (0,), told[2]),
        ):
            self.assertIs(is_like_double_paper(TWO, THREE, wrong), False, wrong)
        for value in some_values():
            self.assertIs(is_like_double_paper(TWO, THREE, value), False)
            self.assertIs(is_like_double_paper(RING, RING, value), False)

    def test_all_likenesses(self):
        for double in [double for double in FEW if len(double) <= 6] + KINDS[:12]:
            told = likenesses_by_trying(double, double)
            self.gives(told, lambda shown: list(double_likenesses(shown)), double)
        for double in [double for double in KINDS if len(double) == 8][::9] + [multiples_of(8, 2)]:
            told = likenesses_by_trying(double, double)
            self.assertEqual(list(double_likenesses(double)), told)

    def test_likenesses_of_more_things(self):
        for size, many in ((9, 6), (11, 10), (12, 4)):
            self.assertEqual(len(list(double_likenesses(Double.both(Group.cyclic(size))))), many)
        twelve = TWO * Double.about(SIX)
        found = list(double_likenesses(twelve))
        self.assertEqual(found, sorted(set(found)))
        self.assertTrue(found and all(leads_sums(twelve, twelve, move) for move in found))
        self.refuses(TooMany, 12, lambda double: next(double_likenesses(double), None), Double.both(Group.cyclic(13)))

    def test_constants(self):
        self.assertEqual((joins.MAX_LIKE_DOUBLE, joins.MAX_LIKENED_DOUBLE), (8, 12))


ACTS = (
    InvalidMove, False,
    lambda value, told: type(value) is tuple and len(value) == len(told[0])
    and all(move_of_size(move, len(told[1])) for move in value),
)
SOME = (
    ((0, 1, 2), (0, 2, 1)), ((0, 1, 2), (0, 1, 2)), ((0, 1), (0, 1)), ((0, 1), (1, 0)), ((0,),), [(0, 1), (0, 1)], ((0, 1), [0, 1]),
    ((0, 1), (0, True)), ((0, 1),), ((0, 1), (1, 1)),
)
RIGHT = (Refused, lambda told: acts_papers(*told)[0], lambda told: acts_papers(*told) == [("join",)])


class TestWrong(WrongCase):

    def test_acts(self):
        doubles = (TWO, THREE, ONE, None)
        names = ["InvalidDouble", "InvalidMove", "none"]
        others = [doubles, doubles, SOME]
        self.assertEqual(sorted(self.tries(join_paper, [DOUBLE, DOUBLE, ACTS], [], others, SOME)), names)
        found = self.tries(join, [DOUBLE, DOUBLE, ACTS], [RIGHT], others, SOME)
        self.assertEqual(sorted(found), sorted(names + ["Refused"]))
        others = [doubles[:2], doubles[:3], SOME, (None, ("join",))]
        self.assertEqual(sorted(self.tries(is_join_paper, [DOUBLE, DOUBLE, ACTS, VALUE], [], others, SOME)), names)

    def test_doubles(self):
        nine = multiples_of(9, 3)
        few = (TooMany, 8, lambda told: all(len(double) <= 8 for double in told[:2]))
        self.assertEqual(sorted(self.tries(double_form, [DOUBLE], [], [()], [nine])), ["InvalidDouble", "none"])
        names = ["InvalidDouble", "TooMany", "none"]
        self.assertEqual(sorted(self.tries(least_double, [DOUBLE], [few], [()], [nine])), names)
        others = [(TWO, nine, None, SIX), (RING, nine, None)]
        self.assertEqual(sorted(self.tries(like_double_paper, [DOUBLE, DOUBLE], [few], others, [nine])), names)
        found = self.tries(is_like_double_paper, [DOUBLE, DOUBLE, VALUE], [few], others + [(None, ("like", (0, 1)))], [nine])
        self.assertEqual(sorted(found), names)

    def test_generators_wait_with_their_errors(self):
        for value in some_values() + [Double.both(Group.cyclic(13))]:
            waiting = double_likenesses(value)
            if type(value) is not Double:
                with self.assertRaises(InvalidDouble):
                    next(waiting)
            elif len(value) > 12:
                with self.assertRaises(TooMany):
                    next(waiting)


if __name__ == "__main__":
    unittest.main()
