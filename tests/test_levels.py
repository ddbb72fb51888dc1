"""Stage 11 [11.1] to [11.8]: ways by going along L, levels by drawing together letter by letter."""

import itertools
import unittest

from truenames.errors import InvalidMove, InvalidOperation, InvalidTable, Refused, TooMany
from truenames.table.levels import (
    bent_union, drawn, falls_paper, is_falls_paper, is_kept_lot, letter_parts, level, levels, part_table,
)
from truenames.table.passing import Passing, least_form, likenesses_of
from tests.helper import FOUR, SWITCH, TURNS, all_lots, all_moves, same, some_values
from tests.quiet import BLOCKS, QUIET, SMALL, quiet_of_size, turned_round
from tests.wrong import LOT, QUIET as THEN_QUIET, TABLE, VALUE, WrongCase, move_of_size

NONE, ONE, TWO = Passing.unmoved(0), Passing.unmoved(1), Passing.unmoved(2)
BOTH = bent_union(SWITCH, TWO, (1, 0), (0, 1))
SHOWN = QUIET + [BOTH, turned_round(2) * turned_round(4), Passing.unmoved(4)]


def reached(table, x):
    """All letters to which ways lead from a letter."""
    found = {x}
    while True:
        more = found | {move[y] for move in table.left for y in found}
        if more == found:
            return tuple(sorted(found))
        found = more


def parts_of(table):
    return tuple(sorted({reached(table, x) for x in range(len(table))}))


def kept(table, lot):
    return all(letter in lot for x in lot for y in lot for letter in table.passed(x, y))


def led(table, way, letter=0):
    for one in way:
        letter = table.left[one][letter]
    return letter


def drawn_together(table):
    """Classes and rows, by joining letters pair by pair."""
    classes = list(range(len(table)))
    for x, y in itertools.combinations(range(len(table)), 2):
        if table.left[x] == table.left[y]:
            classes = [min(classes[x], classes[y]) if one in (classes[x], classes[y]) else one for one in classes]
    leasts = sorted(set(classes))
    told = {}
    for x, y in itertools.product(range(len(table)), repeat=2):
        u, v = table.passed(x, y)
        pair = (leasts.index(classes[u]), leasts.index(classes[v]))
        place = (leasts.index(classes[x]), leasts.index(classes[y]))
        assert told.setdefault(place, pair) == pair
    rows = tuple(tuple(told[(x, y)] for y in range(len(leasts))) for x in range(len(leasts)))
    return rows, tuple(leasts.index(one) for one in classes)


def levels_of(table):
    sizes = [len(table)]
    while True:
        table = Passing(drawn_together(table)[0])
        if len(table) == sizes[-1]:
            return tuple(sizes)
        sizes.append(len(table))


class TestFalls(WrongCase):

    def test_papers(self):
        for table in SHOWN:
            paper = falls_paper(table)
            self.gives(paper, falls_paper, table)
            self.assertIs(is_falls_paper(table, paper), True)
            lots = [lot for lot in all_lots(len(table)) if kept(table, lot) and 0 < len(lot) < len(table)]
            pairs = [(one, other) for one in lots for other in lots if sorted(one + other) == list(range(len(table)))]
            self.assertEqual(paper[0], "parts" if pairs else "ways")
            if pairs:
                self.assertIn(paper[1:], pairs)
                self.assertGreaterEqual(len(parts_of(table)), 2)
            else:
                self.assertEqual(tuple(led(table, way) for way in paper[1]), tuple(range(len(table))))
                self.assertTrue(all(len(way) <= 200 for way in paper[1]))

    def test_all_pairs_of_lots(self):
        for table in SMALL + [FOUR, BLOCKS, BOTH, SWITCH * SWITCH, Passing.unmoved(4)]:
            lots = all_lots(len(table))
            for one, other in itertools.product(lots, repeat=2):
                right = bool(one) and bool(other) and sorted(one + other) == list(range(len(table)))
                right = right and kept(table, one) and kept(table, other)
                self.assertIs(is_falls_paper(table, ("parts", one, other)), right)

    def test_ways(self):
        for table in [SWITCH, turned_round(3), FOUR, ONE, NONE, BOTH]:
            ways = [way for many in range(3) for way in itertools.product(range(len(table)), repeat=many)]
            for told in itertools.product(ways[::1 if len(table) < 4 else 3], repeat=min(len(table), 3)):
                told = told + ((),) * (len(table) - len(told))
                right = all(led(table, way) == letter for letter, way in enumerate(told))
                self.assertIs(is_falls_paper(table, ("ways", told)), right)
        self.assertIs(is_falls_paper(FOUR, falls_paper(FOUR)), True)
        self.gives(("ways", ()), falls_paper, NONE)
        self.gives(("ways", ((),)), falls_paper, ONE)

    def test_edges_of_ways(self):
        self.assertIs(is_falls_paper(SWITCH, ("ways", ((0,) * 200, (1,) * 199))), True)
        self.assertIs(is_falls_paper(SWITCH, ("ways", ((0,) * 202, (0,)))), False)
        self.assertIs(is_falls_paper(SWITCH, ("ways", ((), (0,) * 201))), False)
        self.assertIs(is_falls_paper(ONE, ("ways", ((0,) * 200,))), True)
        self.assertIs(is_falls_paper(ONE, ("ways", ((0,) * 201,))), False)

    def test_near_papers(self):
        for wrong in (
            ("ways", [(), (0,)]), ("ways", ((), [0])), ["ways", ((), (0,))], ("ways", ((), (False,))), ("ways", ((), (2,))),
            ("ways", ((), (0,), ())), ("ways", ((),)), ("ways", ((), (0,)), ()), ("way", ((), (0,))), ("ways",), (),
            ("parts", (0,), (1,)), ("parts", ((), (0,))), ("ways", (), (0,)), ("ways", ((), ("0",))), ("ways", ((0,), ())),
            ("ways", ((), 0)), ("ways", None), ("ways", ((), (-1,))),
        ):
            self.assertIs(is_falls_paper(SWITCH, wrong), False, wrong)
        self.assertIs(is_falls_paper(TWO, ("parts", (0,), (1,))), True)
        self.assertIs(is_falls_paper(TWO, ("parts", (1,), (0,))), True)
        for wrong in (
            ("parts", [0], (1,)), ("parts", (0,), [1]), ["parts", (0,), (1,)], ("parts", (False,), (1,)), ("parts", (0,), (True,)),
            ("parts", (0,), (1,), ()), ("parts", (0,)), ("part", (0,), (1,)), ("parts", (), (0, 1)), ("parts", (0, 1), ()),
            ("parts", (0,), (0, 1)), ("parts", ((0,), (1,))), ("parts", (0,), (2,)), ("parts", (0,), (0,)), ("ways", (0,), (1,)),
            ("parts", 0, 1), ("parts", (0,), (1, 1)), ("ways", ((), ())),
        ):
            self.assertIs(is_falls_paper(TWO, wrong), False, wrong)
        self.assertIs(is_falls_paper(Passing.unmoved(3), ("parts", (2, 0), (1,))), False)
        self.assertIs(is_falls_paper(Passing.unmoved(3), ("parts", (0, 2), (1,))), True)
        self.assertIs(is_falls_paper(NONE, ("ways", ())), True)
        for wrong in (("ways", ((),)), ("parts", (), ()), ("ways",), ("ways", [])):
            self.assertIs(is_falls_paper(NONE, wrong), False)
        for value in some_values():
            for table in (SWITCH, TWO, ONE):
                self.assertIs(is_falls_paper(table, value), False)

    def test_letter_parts(self):
        for table in SHOWN:
            self.gives(parts_of(table), letter_parts, table)
            self.assertEqual(letter_parts(table.mirrored()), parts_of(table))
            for many in range(len(parts_of(table)) + 1):
                for parts in itertools.combinations(parts_of(table), many):
                    self.assertTrue(is_kept_lot(table, tuple(sorted(sum(parts, ())))))

    def test_prime_tables_that_do_not_fall(self):
        """[11.5]"""
        for size in (2, 3):
            told = {least_form(table) for table in quiet_of_size(size) if falls_paper(table)[0] == "ways"}
            self.assertEqual(told, {least_form(turned_round(size))})

    def test_what_the_document_says_is_not_true(self):
        """[11.6]"""
        two = turned_round(2)
        self.assertEqual(falls_paper(two * two)[0], "parts")
        self.assertEqual(falls_paper(FOUR)[0], "ways")
        self.assertEqual(len(set(FOUR.left)), 4)
        falling = bent_union(FOUR, ONE, (0,), (0, 1, 2, 3))
        self.assertEqual((falls_paper(falling)[0], level(falling)), ("parts", None))


class TestParts(WrongCase):

    def test_kept_lots(self):
        for table in SHOWN:
            for lot in all_lots(len(table))[::1 if len(table) < 6 else 5]:
                self.gives(kept(table, lot), is_kept_lot, table, lot)

    def test_part_tables(self):
        for table in SHOWN:
            for lot in all_lots(len(table))[::1 if len(table) < 6 else 5]:
                pairs = [pair for pair in itertools.product(lot, repeat=2) if not set(table.passed(*pair)) <= set(lot)]
                if pairs:
                    self.refuses(Refused, ("kept",) + min(pairs), part_table, table, lot)
                    continue
                part = part_table(table, lot)
                self.gives(part, part_table, table, lot)
                self.assertTrue(part.is_quiet)
                self.assertEqual(len(part), len(lot))
                for x, y in itertools.product(range(len(lot)), repeat=2):
                    u, v = part.passed(x, y)
                    self.assertEqual((lot[u], lot[v]), table.passed(lot[x], lot[y]))
        self.gives(NONE, part_table, FOUR, ())
        self.gives(FOUR, part_table, FOUR, (0, 1, 2, 3))


class TestLevels(WrongCase):

    def test_drawn_tables(self):
        for table in SHOWN:
            rows, classes = drawn_together(table)
            told = drawn(table)
            self.assertEqual((told[0].rows, told[1]), (rows, classes))
            self.assertTrue(told[0].is_quiet)
            self.assertTrue(same(told[1], classes))
            self.gives(told, drawn, table)
            self.assertEqual(drawn(table.mirrored())[1], classes)
            if falls_paper(told[0])[0] == "parts":
                self.assertEqual(falls_paper(table)[0], "parts")

    def test_levels(self):
        ends = set()
        for table in SHOWN + [table for table in quiet_of_size(3)]:
            told = levels_of(table)
            self.gives(told, levels, table)
            self.gives(told, levels, table.mirrored())
            self.gives(len(told) - 1 if told[-1] <= 1 else None, level, table)
            ends.add(level(table))
        self.assertEqual(ends, {None, 0, 1, 2, 3} & ends | {None, 0, 1, 2})

    def test_edges(self):
        self.gives((0,), levels, NONE)
        self.gives((1,), levels, ONE)
        self.gives(0, level, NONE)
        self.gives(0, level, ONE)
        for size in range(2, 9):
            self.gives((size, 1), levels, Passing.unmoved(size))
            self.gives(1, level, turned_round(size))
        self.gives((4,), levels, FOUR)
        self.gives(None, level, FOUR)

    def test_products(self):
        """[11.4]"""
        for one, other in itertools.product([NONE, ONE, TWO, SWITCH, FOUR, BOTH] + SMALL[4:8], repeat=2):
            if len(one) * len(other) <= 8:
                self.assertEqual(drawn(one * other)[0], drawn(one)[0] * drawn(other)[0])


class TestUnions(WrongCase):

    def test_bent_unions(self):
        few = [NONE, ONE, TWO, SWITCH, turned_round(3), SMALL[5], SMALL[8], FOUR, BLOCKS]
        for one, other in itertools.product(few, repeat=2):
            for first in list(likenesses_of(other))[:4]:
                for second in list(likenesses_of(one))[::2]:
                    self.check_union(one, other, first, second)

    def check_union(self, one, other, first, second):
        table = bent_union(one, other, first, second)
        many = len(one)
        self.gives(table, bent_union, one, other, first, second)
        self.assertTrue(table.is_quiet)
        self.assertEqual(len(table), many + len(other))
        for x, y in itertools.product(range(many), repeat=2):
            self.assertEqual(table.passed(x, y), one.passed(x, y))
        for x, y in itertools.product(range(len(other)), repeat=2):
            u, v = other.passed(x, y)
            self.assertEqual(table.passed(many + x, many + y), (many + u, many + v))
        for x, y in itertools.product(range(many), range(len(other))):
            self.assertEqual(table.left[x][many + y], many + first[y])
            self.assertEqual(table.left[many + y][x], second[x])
        if many and len(other):
            self.assertEqual(falls_paper(table)[0], "parts")

    def test_moves_that_are_no_likenesses(self):
        found = set()
        for one, other in ((SWITCH, FOUR), (FOUR, SMALL[6]), (BLOCKS, FOUR), (FOUR, FOUR * SWITCH)):
            likes = [
                {move for move in all_moves(len(table)) if table.renamed(move) == table} if len(table) < 8
                else {tuple(range(8))}
                for table in (other, one)
            ]
            firsts = all_moves(len(other))[:24:5] + [tuple(range(len(other)))]
            for first, second in itertools.product(firsts, all_moves(len(one))[::5]):
                if first not in likes[0]:
                    self.refuses(Refused, ("first",), bent_union, one, other, first, second)
                    found.add("first")
                elif second not in likes[1]:
                    self.refuses(Refused, ("second",), bent_union, one, other, first, second)
                    found.add("second")
                elif len(one) + len(other) > 8:
                    self.refuses(TooMany, 8, bent_union, one, other, first, second)
                    found.add("many")
                else:
                    self.check_union(one, other, first, second)
                    found.add("right")
        self.assertEqual(found, {"first", "second", "many", "right"})

    def test_edges(self):
        self.assertEqual(len(bent_union(FOUR, Passing.unmoved(4), (1, 2, 3, 0), (0, 1, 2, 3))), 8)
        self.refuses(TooMany, 8, bent_union, FOUR, Passing.unmoved(5), (1, 2, 3, 0, 4), (0, 1, 2, 3))
        self.gives(NONE, bent_union, NONE, NONE, (), ())
        self.gives(FOUR, bent_union, FOUR, NONE, (), (0, 1, 2, 3))
        self.gives(FOUR, bent_union, NONE, FOUR, (0, 1, 2, 3), ())
        self.refuses(Refused, ("second",), bent_union, FOUR, NONE, (), (1, 0, 2, 3))
        self.refuses(Refused, ("first",), bent_union, NONE, FOUR, (1, 0, 2, 3), ())


IDLE = (0, 1, 2)
FIRST = (InvalidMove, False, lambda value, told: move_of_size(value, len(told[1])))
SECOND = (InvalidMove, False, lambda value, told: move_of_size(value, len(told[0])))
BOTH_QUIET = (Refused, ("quiet",), lambda told: told[0].is_quiet and told[1].is_quiet)
KEEPS_FIRST = (Refused, ("first",), lambda told: told[1].renamed(told[2]) == told[1])
KEEPS_SECOND = (Refused, ("second",), lambda told: told[0].renamed(told[3]) == told[0])
SMALL_ENOUGH = (TooMany, 8, lambda told: len(told[0]) + len(told[1]) <= 8)


class TestWrong(WrongCase):

    def test_tables(self):
        for call in (falls_paper, letter_parts, drawn, levels, level):
            found = self.tries(call, [TABLE], [THEN_QUIET], [()])
            self.assertEqual(sorted(found), ["InvalidTable", "Refused", "none"])
        found = self.tries(is_falls_paper, [TABLE, VALUE], [THEN_QUIET], [(SWITCH, TURNS, None), (None, ("ways", ()))])
        self.assertEqual(sorted(found), ["InvalidTable", "Refused", "none"])

    def test_lots(self):
        tables, lots = (SWITCH, TURNS, FOUR, NONE, None), ((), (0, 1), (1, 0), (0, 4), [0], (0, True), (0, 0))
        found = self.tries(is_kept_lot, [TABLE, LOT], [THEN_QUIET], [tables, lots])
        self.assertEqual(sorted(found), ["InvalidOperation", "InvalidTable", "Refused", "none"])
        lots = ((), (0, 1), (1, 0), (0, 4), [0], (0, True), (0, 0))
        for table, lot in itertools.product(tables, lots + tuple(some_values())):
            if type(table) is not Passing:
                self.refuses(InvalidTable, None, part_table, table, lot)
            elif not LOT[2](lot, (table,)):
                self.refuses(InvalidOperation, None, part_table, table, lot)
            elif not table.is_quiet:
                self.refuses(Refused, ("quiet",), part_table, table, lot)

    def test_unions(self):
        tables, moves = (SWITCH, TURNS, Passing.unmoved(3), None), ((0, 1), IDLE, (1, 0), (0, True))
        found = self.tries(
            bent_union, [TABLE, TABLE, FIRST, SECOND], [BOTH_QUIET, KEEPS_FIRST, KEEPS_SECOND, SMALL_ENOUGH],
            [tables, tables, moves, moves],
        )
        self.assertEqual(sorted(found), ["InvalidMove", "InvalidTable", "Refused", "none"])
        other = TURNS * TWO
        self.refuses(Refused, ("quiet",), bent_union, FOUR, other, (1, 0, 2, 3, 4, 5), (1, 0, 2, 3))
        self.refuses(Refused, ("quiet",), bent_union, other, FOUR, (1, 0, 2, 3), (1, 0, 2, 3, 4, 5))
        self.refuses(InvalidMove, None, bent_union, TURNS, SWITCH, (0, 1, 2), (0, 1))


if __name__ == "__main__":
    unittest.main()
