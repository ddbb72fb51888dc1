"""Stage 13 [13.1] to [13.7]: ring products and both ways round, by going through all threes."""

import itertools
import math
import random
import unittest

from truenames.double import rings
from truenames.double.doubles import Double
from truenames.double.ideals import ideals, left_parts
from truenames.double.listing import doubles_on
from truenames.double.rings import (
    both_ways_paper, double_of_ring, is_both_ways_paper, is_ring_paper, multiples, ring_paper, swapped,
)
from truenames.errors import InvalidDouble, InvalidGroup, InvalidNumber, InvalidRing, Refused
from truenames.group.groups import Group, all_groups
from tests.helper import RING, SIX, SWITCH, renamed_group, some_values
from tests.shown_doubles import LARGE_DOUBLES, SMALL_DOUBLES, minus, mirrored, moved_double, multiples_of
from tests.test_ideals import FEW, star_of
from tests.wrong import DOUBLE, GROUP, VALUE, WrongCase, below, row_of

TWO, FOUR_RING = Group.cyclic(2), Group.cyclic(4)
TWOS = TWO * TWO
SIGNS = mirrored(6)
ABOUT = Double.about(SIX)
SHOWN = FEW + [SIGNS, moved_double(SIGNS, (3, 1, 5, 0, 2, 4))] + [double for double in SMALL_DOUBLES if len(double) > 8]


def star_table(double):
    things = range(len(double))
    return [[star_of(double, a, b) for b in things] for a in things]


def ring_papers(double):
    """All right ring papers, the kinds in the order of the document."""
    add, things = double.plus.rows, range(len(double))
    unlike = [("plus", a, b) for a in things for b in things if add[a][b] != add[b][a]]
    if unlike:
        return unlike
    star = star_table(double)
    broken = [
        ("adds", a, b, c) for a, b, c in itertools.product(things, repeat=3)
        if star[add[a][b]][c] != add[star[a][c]][star[b][c]]
    ]
    return broken or [("ring",)]


def way_papers(double):
    """All right both ways papers."""
    add, make, back = double.plus.rows, double.circle.rows, minus(double.circle)
    papers = [
        ("apart", a, b, c) for a, b, c in itertools.product(range(len(double)), repeat=3)
        if add[a][make[b][c]] != make[make[add[a][b]][back[a]]][add[a][c]]
    ]
    return papers or [("both",)]


def is_product(plus, product):
    """Whether the product keeps the three rules on a commutative plus."""
    add, things = plus.rows, range(len(plus))
    if any(add[a][b] != add[b][a] for a in things for b in things):
        return False
    for a, b, c in itertools.product(things, repeat=3):
        if product[a][add[b][c]] != add[product[a][b]][product[a][c]]:
            return False
        if product[add[a][b]][c] != add[product[a][c]][product[b][c]]:
            return False
        if product[product[a][b]][c] != product[a][product[b][c]]:
            return False
    return True


def things_without_way(plus, product):
    add, things = plus.rows, range(len(plus))
    return [a for a in things if all(add[add[a][b]][product[a][b]] != plus.unit for b in things)]


class TestRings(WrongCase):

    def test_constant(self):
        self.assertEqual(rings.MAX_MULTIPLES, 24)

    def test_ring_papers(self):
        words = set()
        for double in SHOWN:
            papers = ring_papers(double)
            self.gives(papers[0], ring_paper, double)
            words.add(papers[0][0])
            right = set(papers)
            things = range(-1, len(double) + 1) if len(double) < 7 else range(0, len(double), 2)
            for told in itertools.product(things, repeat=2):
                self.assertIs(is_ring_paper(double, ("plus", *told)), ("plus", *told) in right)
            for told in itertools.product(things, repeat=3):
                self.assertIs(is_ring_paper(double, ("adds", *told)), ("adds", *told) in right)
            self.assertIs(is_ring_paper(double, ("ring",)), papers == [("ring",)])
        self.assertEqual(words, {"ring", "plus", "adds"})

    def test_large_doubles(self):
        for double in LARGE_DOUBLES[::3] + [multiples_of(24, 6), mirrored(24)]:
            papers = ring_papers(double)
            self.gives(papers[0], ring_paper, double)
            self.assertTrue(all(is_ring_paper(double, paper) for paper in papers[::97]))

    def test_near_papers(self):
        for double, right, wrongs in (
            (RING, ("ring",), (["ring"], ("ring", 0), "ring", ("rings",), ("adds", 0, 0, 0), ("plus", 0, 1))),
            (SIGNS, ("adds", 1, 1, 1), (
                ("adds", True, 1, 1), ("adds", 1, 1, True), ["adds", 1, 1, 1], ("adds", 1, 1), ("adds", 1, 1, 1, 1),
                ("adds", 0, 1, 1), ("add", 1, 1, 1), ("ring",), ("plus", 1, 1), ("adds", 1, 1, 7), ("adds", 1, -5, 1), None,
            )),
            (ABOUT, ("plus", 1, 2), (
                ("plus", True, 2), ["plus", 1, 2], ("plus", 1), ("plus", 1, 2, 3), ("plus", 2, 2), ("plus", 1, 6), ("ring",),
                ("plus", -5, 2), ("plus", (1, 2)), ("adds", 1, 2, 3),
            )),
        ):
            self.assertIs(is_ring_paper(double, right), True)
            for wrong in wrongs:
                self.assertIs(is_ring_paper(double, wrong), False, wrong)
            for value in some_values():
                self.assertIs(is_ring_paper(double, value), False)
        for things in itertools.product(range(6), repeat=3):
            self.assertIs(is_ring_paper(ABOUT, ("adds", *things)), False)

    def test_parts_of_rings(self):
        """[13.4]"""
        for double in [double for double in FEW if ring_papers(double) == [("ring",)]]:
            star, things = star_table(double), range(len(double))
            parts = double.plus.parts()
            left = [lot for lot in parts if all(star[a][b] in lot for a in things for b in lot)]
            whole = [lot for lot in left if all(star[b][a] in lot for a in things for b in lot)]
            self.assertEqual(sorted(left_parts(double)), left)
            self.assertEqual(sorted(ideals(double)), whole)


class TestProducts(WrongCase):

    def check_product(self, plus, product):
        if not is_product(plus, product):
            self.refuses(InvalidRing, None, double_of_ring, plus, product)
            return "rule"
        without = things_without_way(plus, product)
        if without:
            self.refuses(Refused, ("back", without[0]), double_of_ring, plus, product)
            return "back"
        double = double_of_ring(plus, product)
        self.gives(double, double_of_ring, plus, product)
        add = plus.rows
        things = range(len(plus))
        circle = tuple(tuple(add[add[a][b]][product[a][b]] for b in things) for a in things)
        self.assertEqual((double.plus, double.circle.rows), (plus, circle))
        self.assertEqual(double.turns, tuple(tuple(add[b][product[a][b]] for b in things) for a in things))
        self.assertEqual(star_table(double), [list(row) for row in product])
        self.assertEqual(ring_paper(double), ("ring",))
        return "ring"

    def test_all_products_of_few_things(self):
        for plus in (Group.cyclic(1), TWO, Group(((1, 0), (0, 1))), Group.cyclic(3), renamed_group(Group.cyclic(3), (1, 0, 2))):
            size = len(plus)
            found = {"rule": 0, "back": 0, "ring": 0}
            for flat in itertools.product(range(size), repeat=size * size):
                product = tuple(flat[a * size:(a + 1) * size] for a in range(size))
                if size < 3 or product[plus.unit] == (plus.unit,) * 3:
                    found[self.check_product(plus, product)] += 1
            self.assertEqual((found["back"], found["ring"]), {1: (0, 1), 2: (1, 1), 3: (2, 1)}[size])

    def test_products_of_more_things(self):
        """Those of rings of integers, of pairs, and of drawn tables of pairs; and near ones."""
        source = random.Random(131)
        found = set()
        for size in range(1, 13):
            for step in range(size):
                product = tuple(tuple(step * a * b % size for b in range(size)) for a in range(size))
                found.add(self.check_product(Group.cyclic(size), product))
                at, to = source.randrange(size), source.randrange(size)
                changed = product[:at] + (product[at][:to] + ((product[at][to] + 1) % size,) + product[at][to + 1:],) + product[at + 1:]
                found.add(self.check_product(Group.cyclic(size), changed))
        for plus in (TWOS, TWOS * TWO, FOUR_RING * TWO):
            things = range(len(plus))
            for a, b, c in itertools.product(things, repeat=3):
                # Each pair is led by what a and b have in common with 1 and 2, to c.
                product = tuple(tuple(c if (x & a) and (y & b) else 0 for y in things) for x in things)
                found.add(self.check_product(plus, product))
        self.assertEqual(found, {"rule", "back", "ring"})

    def test_stars_tell_doubles(self):
        """[13.2]"""
        for double in FEW:
            product = tuple(map(tuple, star_table(double)))
            if ring_papers(double) == [("ring",)]:
                self.gives(double, double_of_ring, double.plus, product)
            else:
                self.refuses(InvalidRing, None, double_of_ring, double.plus, product)

    def test_wrong_products(self):
        rows = ((0, 0), (0, 0))
        for wrong in (
            [(0, 0), (0, 0)], ((0, 0), [0, 0]), ((0, 0),), rows + ((0, 0),), ((0, 0), (0, 2)), ((0, 0), (0, -1)),
            ((0, 0), (0, False)), ((0, 0), (0, 0, 0)), ((0, 0), (0,)), None, (), 0, "00", {0: (0, 0), 1: (0, 0)},
        ):
            self.refuses(InvalidRing, None, double_of_ring, TWO, wrong)
        self.refuses(InvalidRing, None, double_of_ring, SIX, ((0,) * 6,) * 6)
        self.assertEqual(double_of_ring(Group.cyclic(24), ((0,) * 24,) * 24), Double.both(Group.cyclic(24)))


class TestMultiples(WrongCase):

    def test_multiples(self):
        refused = 0
        for size in range(1, 25):
            for step in range(size):
                wrong = [a for a in range(size) if math.gcd(1 + step * a, size) > 1]
                if wrong:
                    self.refuses(Refused, ("back", wrong[0]), multiples, size, step)
                    refused += 1
                    continue
                told = multiples_of(size, step)
                self.gives(told, multiples, size, step)
                self.assertEqual(ring_paper(told), ("ring",))
        self.assertGreater(refused, 100)

    def test_wrong_numbers(self):
        for value in some_values() + [23, 24, 25, -1]:
            if not below(value, 25) or value == 0:
                self.refuses(InvalidNumber, value, multiples, value, value)
                self.refuses(InvalidNumber, value, multiples, value, 0)
            if not below(value, 24):
                self.refuses(InvalidNumber, value, multiples, 24, value)
            if not below(value, 4):
                self.refuses(InvalidNumber, value, multiples, 4, value)
        self.refuses(InvalidNumber, 1, multiples, 1, 1)
        self.refuses(InvalidNumber, 0, multiples, 0, 5)
        self.refuses(InvalidNumber, 25, multiples, 25, -1)
        self.gives(Double.both(Group.cyclic(1)), multiples, 1, 0)


class TestBothWays(WrongCase):

    def test_papers(self):
        words = set()
        for double in SHOWN:
            papers = way_papers(double)
            self.gives(papers[0], both_ways_paper, double)
            words.add(papers[0][0])
            right = set(papers)
            things = range(-1, len(double) + 1) if len(double) < 7 else range(0, len(double), 3)
            for told in itertools.product(things, repeat=3):
                self.assertIs(is_both_ways_paper(double, ("apart", *told)), ("apart", *told) in right)
            self.assertIs(is_both_ways_paper(double, ("both",)), papers == [("both",)])
            if papers == [("both",)]:
                other = swapped(double)
                self.assertEqual((other.plus, other.circle), (double.circle, double.plus))
                self.gives(other, swapped, double)
                self.assertEqual(swapped(other), double)
            else:
                self.refuses(Refused, papers[0], swapped, double)
        self.assertEqual(words, {"both", "apart"})

    def test_large_doubles(self):
        for double in LARGE_DOUBLES[::2]:
            papers = way_papers(double)
            self.gives(papers[0], both_ways_paper, double)
            self.assertTrue(all(is_both_ways_paper(double, paper) for paper in papers[::97]))

    def test_turns_tell_it(self):
        """[13.5]"""
        for double in SHOWN:
            add, turns, things = double.plus.rows, double.turns, range(len(double))
            told = all(turns[add[a][b]] == tuple(turns[b][x] for x in turns[a]) for a in things for b in things)
            self.assertEqual(told, both_ways_paper(double) == ("both",))
            if ring_papers(double) == [("ring",)]:
                star = star_table(double)
                ends = all(star[star[a][b]][c] == double.unit for a, b, c in itertools.product(things, repeat=3))
                self.assertEqual(told, ends)

    def test_near_papers(self):
        double = multiples(8, 2)
        self.assertIs(is_both_ways_paper(double, ("apart", 3, 5, 7)), True)
        for wrong in (
            ("apart", 3, 5), ("apart", 3, 5, 7, 1), ["apart", 3, 5, 7], ("apart", True, 5, 7), ("part", 3, 5, 7), ("both",),
            ("apart", 3, 5, 8), ("apart", 3, -3, 7), ("apart", 0, 5, 7), ("apart", (3, 5, 7)), None,
        ):
            self.assertIs(is_both_ways_paper(double, wrong), False, wrong)
        for wrong in (["both"], ("both", 0), "both", ("apart", 1, 1, 1), ("boths",)):
            self.assertIs(is_both_ways_paper(RING, wrong), False, wrong)
        for value in some_values():
            self.assertIs(is_both_ways_paper(double, value), False)
            self.assertIs(is_both_ways_paper(RING, value), False)

    def test_plain_ones_and_others(self):
        """[13.7]"""
        for group in [group for size in range(1, 9) for group in all_groups(size)] + [Group.polygon(12)]:
            self.assertEqual(both_ways_paper(Double.both(group)), ("both",))
            self.assertEqual(both_ways_paper(Double.about(group)), ("both",))
        commutative = [
            double for plus in all_groups(8)[:3] for double in doubles_on(plus)
            if double.circle.is_commutative and both_ways_paper(double) != ("both",)
        ]
        self.assertTrue(commutative)
        self.assertEqual((both_ways_paper(SIGNS), ring_paper(SIGNS)[0]), (("both",), "adds"))


PRODUCT = (
    InvalidRing, False,
    lambda value, told: type(value) is tuple and len(value) == len(told[0])
    and all(row_of(row, len(told[0])) and len(row) == len(told[0]) for row in value) and is_product(told[0], value),
)
WAYS = (Refused, ("back", 1), lambda told: not things_without_way(*told))


class TestWrong(WrongCase):

    def test_doubles(self):
        for call in (ring_paper, both_ways_paper):
            self.assertEqual(sorted(self.tries(call, [DOUBLE], [], [()])), ["InvalidDouble", "none"])
        for call in (is_ring_paper, is_both_ways_paper):
            found = self.tries(call, [DOUBLE, VALUE], [], [(RING, ABOUT, SWITCH), (None, ("ring",), ("both",))])
            self.assertEqual(sorted(found), ["InvalidDouble", "none"])
        for value in some_values():
            if type(value) is not Double:
                self.refuses(InvalidDouble, None, swapped, value)

    def test_products(self):
        products = (((0, 0), (0, 0)), ((0, 0), (0, 1)), ((0, 1), (1, 0)), ((0,),), [(0, 0), (0, 0)])
        found = self.tries(
            double_of_ring, [GROUP, PRODUCT], [WAYS], [(TWO, Group.cyclic(1), SIX, None), products],
        )
        self.assertEqual(sorted(found), ["InvalidGroup", "InvalidRing", "Refused", "none"])
        self.refuses(InvalidGroup, None, double_of_ring, RING, ((0,),))


if __name__ == "__main__":
    unittest.main()
