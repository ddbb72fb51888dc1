"""The examples of the document, as it prints them."""

import ast
import unittest

from truenames import errors
from truenames.double import doubles, listing, making, own
from truenames.group import groups, moves
from truenames.table import levels, passing
from truenames.word import still, vectors, words
from tests.helper import Case

TABLES = """
>>> SWITCH = Passing.of_left(((1, 0), (1, 0)))
>>> FOUR = Passing.of_dots(((0, 1, 3, 2), (2, 3, 1, 0), (1, 0, 2, 3), (3, 2, 0, 1)))
>>> TURNS = Passing((((0, 0), (2, 0), (1, 0)), ((2, 1), (1, 1), (0, 1)), ((1, 2), (0, 2), (2, 2))))
>>> RING = Double.of_turns(Group.cyclic(4), ((0, 1, 2, 3), (0, 3, 2, 1), (0, 1, 2, 3), (0, 3, 2, 1)))
"""
MOVES = """
>>> ROUND, SWAP = (1, 2, 0), (1, 0, 2)
>>> [joined(ROUND, SWAP), joined(SWAP, ROUND), undone(ROUND), raised(ROUND, 10 ** 50), raised(ROUND, -1), joined((), ())]
[(2, 1, 0), (0, 2, 1), (2, 0, 1), (1, 2, 0), (2, 0, 1), ()]
>>> [cycles((1, 0, 3, 4, 2)), order_of((1, 0, 3, 4, 2)), cycles(()), order_of(()), is_move((0, 2)), is_move((0, True))]
[((0, 1), (2, 3, 4)), 6, (), 1, False, False]
>>> [closure(3, (ROUND, SWAP)), closure(2, ()), closure(0, ())]
[((0, 1, 2), (0, 2, 1), (1, 0, 2), (1, 2, 0), (2, 0, 1), (2, 1, 0)), ((0, 1),), ((),)]
>>> [orbits(5, ((1, 0, 2, 3, 4), (0, 1, 2, 4, 3))), orbits(0, ())]
[((0, 1), (2,), (3, 4)), ()]
>>> [way(4, ((1, 2, 3, 0), (3, 0, 1, 2)), 0, 3), way(4, ((1, 2, 3, 0),), 0, 3), way(3, (), 1, 1), way(3, (SWAP,), 0, 2)]
[(1,), (0, 0, 0), (), None]
>>> [is_way(3, (ROUND, SWAP), 0, 2, (0, 0)), is_way(3, (ROUND, SWAP), 0, 2, (1, 0)), is_way(3, (ROUND,), 0, 0, (0, 0, 0))]
[True, True, False]
>>> joined(ROUND, (1, 0))
raises InvalidMove
>>> closure(8, ((1, 2, 3, 4, 5, 6, 7, 0), (1, 0, 2, 3, 4, 5, 6, 7)))
raises TooMany(1000)
"""
GROUPS = """
>>> SIX = Group.polygon(3)
>>> [SIX.unit, SIX.times(1, 2), SIX.times(2, 1), SIX.back(2), SIX.raised(2, -4), SIX.centre]
[0, 5, 3, 4, 4, (0,)]
>>> [SIX.closure((2,)), SIX.is_whole((0, 2, 4)), SIX.is_whole((0, 1)), SIX.quotient((0, 2, 4))[1], len(list(likenesses(SIX)))]
[(0, 2, 4), True, False, ((0, 2, 4), (1, 3, 5)), 6]
>>> [group_paper(((0, 1), (1, 1))), group_paper(((0, 1, 2), (1, 0, 1), (2, 2, 0)))]
[('back', 1), ('three', 1, 1, 2)]
>>> [like_paper(SIX, Group.cyclic(6)), Group.of_moves(3, ((1, 2, 0),)) == Group.cyclic(3)]
[('orders', ((1, 1), (2, 3), (3, 2)), ((1, 1), (2, 1), (3, 2), (6, 2))), True]
"""
PASSING = """
>>> BENT = (((0, 0), (1, 0)), ((1, 1), (0, 1)))
>>> [fair_paper(SWITCH.rows), fair_paper((((0, 0), (0, 1)), ((1, 0), (1, 1)))), fair_paper(BENT), is_fair_paper(BENT, ("three", 0, 1, 1)), fair_paper(())]
[('fair',), ('left', 0, 0, 1), ('three', 1, 0, 0), False, ('fair',)]
>>> [SWITCH.rows, SWITCH.passed(0, 0), TURNS.is_quiet, TURNS.passed_back().passed(2, 0), TURNS.mirrored().passed(1, 0), str(TURNS), FOUR.left[1]]
[(((1, 1), (0, 1)), ((1, 0), (0, 0))), (1, 1), False, (0, 1), (0, 2), 'fair table of 3 letters', (3, 2, 0, 1)]
>>> [dots_paper(((0, 1), (1, 0))), dots_paper(((0, 0), (1, 0))), dots_of(SWITCH), len(list(likenesses_of(TURNS))), least_form(SWITCH), (SWITCH * SWITCH).passed(0, 1)]
[('three', 0, 1, 0), ('row', 0, 0, 1), ((1, 0), (1, 0)), 6, '2 11011000', (2, 3)]
>>> Passing(BENT)
raises Refused(('three', 1, 0, 0))
>>> Passing.of_pair((1, 2, 0), (1, 0, 2))
raises Refused(('order', 0))
"""
WORDS = """
>>> [passed_at(SWITCH, (0, 0, 1), 0), passed_at(SWITCH, (0, 0, 1), 1), passed_at(TURNS, (0, 1, 2), 0), walked(FOUR, (0, 1, 2), (0, 1))]
[(1, 1, 1), (0, 0, 1), (2, 0, 2), (1, 2, 2)]
>>> [crossed(TURNS, (0, 1, 2), (2, 1, 0)), walked(TURNS, (0, 1, 2), (1, 0, 1)), crossed(TURNS, (0, 1, 2), (0, 1, 2)), crossed(SWITCH, (), ())]
[(0, 2, 0), (0, 2, 0), (0, 1, 2), ()]
>>> [true_names(SWITCH, (0, 0, 1)), true_names(FOUR, (0, 1, 2)), true_names(FOUR, (1, 2, 2)), word_of_names(FOUR, (0, 0, 1))]
[(0, 1, 1), (0, 1, 0), (1, 0, 0), (0, 0, 1)]
>>> [is_kin_paper(FOUR, (0, 1, 2), (1, 2, 2), ("passings", (0,))), is_kin_paper(FOUR, (0, 1, 2), (1, 2, 2), ("passings", (0, 1, 1))), kin_paper(SWITCH, (0, 1), (0, 0))[0]]
[True, True, 'name']
>>> [steps_between(FOUR, (0, 1, 2), (1, 2, 2)), steps_between(SWITCH, (0, 1), (0, 0)), kin_count(FOUR, (0, 1, 2)), list(kin_words(FOUR, (0, 1, 2)))]
[1, None, 3, [(0, 0, 1), (0, 1, 2), (1, 2, 2)]]
>>> true_names(TURNS, (0, 1))
raises Refused(('quiet',))
>>> passed_at(TURNS, (0, 1), 1)
raises InvalidNumber(1)
"""
VECTORS = """
>>> [vector_of(SWITCH, (0, 1)), vector_of(SWITCH, (0, 0)), word_of(SWITCH, (2, 0)), vector_of(FOUR, (0, 1, 2)), turning(SWITCH, (-3, 10 ** 50))]
[(2, 0), (1, 1), (0, 1), (2, 1, 0, 0), (1, 0)]
>>> [added(SWITCH, (1, 0), (1, 0)), taken_back(SWITCH, (1, 0)), power(SWITCH, (1, 0), 3), power(SWITCH, (1, 0), -1), power(SWITCH, (2, 1), 0)]
[(1, 1), (0, -1), (2, 1), (0, -1), (0, 0)]
>>> [rest_behind(SWITCH, (1, 0), (2, 0)), rest_ahead(SWITCH, (1, 0), (2, 0)), is_beginning(SWITCH, (1, 0), (2, 0)), is_ending(SWITCH, (1, 0), (2, 0))]
[(0, 1), (2, -1), True, False]
>>> [least_common(SWITCH, (2, 0), (0, 1)), greatest_common(SWITCH, (2, 0), (1, 1))]
[((2, 1), (0, 1), (0, 2)), ((1, 0), (0, 1), (1, 0))]
>>> vector_of(TURNS, (0, 1))
raises Refused(('quiet',))
>>> power(SWITCH, (10 ** 40, 0), 10 ** 40)
raises TooMany(60)
"""
STILL = """
>>> [still_base(SWITCH), own_count(SWITCH), exponent(SWITCH), turnings(SWITCH)]
[((1, 1), (0, 2)), 2, 2, ((0, 1), (1, 0))]
>>> [still_base(FOUR), own_count(FOUR), exponent(FOUR), turnings(FOUR)[:3]]
[((1, 1, 1, 1), (0, 2, 0, 0), (0, 0, 2, 0), (0, 0, 0, 2)), 8, 2, ((0, 1, 2, 3), (0, 1, 3, 2), (1, 0, 2, 3))]
>>> [remainder(FOUR, (1, 0, 0, 0)), remainder(SWITCH, (-3, 10 ** 50)), is_still(FOUR, (1, 1, 1, 1)), is_still(FOUR, (1, 1, 0, 0))]
[(0, 1, 1, 1), (0, 1), True, False]
>>> [folded(SWITCH, (-3, 4)), folded_added(SWITCH, (1, 0), (1, 1)), folded_added(SWITCH, (3, 2), (-1, 5))]
[(1, 0), (0, 1), (0, 1)]
>>> BENT = Passing.of_left(((0, 1, 2), (0, 1, 2), (1, 0, 2)))
>>> [still_base(BENT), exponent(BENT), still_base(Passing.unmoved(2)), still_base(Passing.unmoved(0)), own_count(Passing.unmoved(0))]
[((1, 0, 0), (0, 1, 0), (0, 0, 2)), 2, ((1, 0), (0, 1)), (), 1]
>>> still_base(TURNS)
raises Refused(('quiet',))
"""
DOUBLES = """
>>> [RING.circle.rows[1], RING.star(1, 1), RING.star(1, 2), RING.is_plain, str(RING), len(RING * Double.both(Group.cyclic(2)))]
[(1, 0, 3, 2), 2, 0, False, 'double of 4 things', 8]
>>> [table_of(RING).passed(1, 1), table_of(RING).passed(1, 2), table_of(RING).is_quiet, RING == Double(RING.plus, RING.circle), ~RING == RING]
[(3, 3), (2, 1), True, True, True]
>>> THREE = ((0, 1, 2), (0, 2, 1), (0, 2, 1))
>>> [turns_paper(Group.cyclic(3), THREE), is_turns_paper(Group.cyclic(3), THREE, ("joined", 2, 1)), turns_paper(RING.plus, RING.turns)]
[('joined', 1, 2), True, ('turns',)]
>>> [turns_paper(Group.cyclic(2), ((0, 1), (1, 0))), double_paper(Group.cyclic(2), Group(((1, 0), (0, 1)))), Double.both(Group.polygon(3)) == Double.about(Group.polygon(3))]
[('likeness', 1, 0, 0), ('rule', 0, 0, 0), False]
>>> Double.of_turns(Group.cyclic(3), THREE)
raises Refused(('joined', 1, 2))
"""
LISTING = """
>>> CYCLE, TWOS, SIX = Group.cyclic(4), Group.cyclic(2) * Group.cyclic(2), Group.polygon(3)
>>> list(turn_rows(CYCLE))
[((0, 1, 2, 3), (0, 1, 2, 3), (0, 1, 2, 3), (0, 1, 2, 3)), ((0, 1, 2, 3), (0, 3, 2, 1), (0, 1, 2, 3), (0, 3, 2, 1))]
>>> [len(list(turn_rows(TWOS))), len(list(doubles_on(SIX))), kind_count(Group.quaternions()), [double.is_plain for double in doubles_on(CYCLE)]]
[4, 4, 8, [True, False]]
>>> [turns_like(CYCLE, TWOS), turns_like(TWOS, CYCLE), turns_like(Group.cyclic(6), SIX), turns_like(CYCLE, SIX)]
[1, 3, 1, 0]
>>> [kept_lots(SIX, Group.cyclic(6)), kept_lots(SIX, SIX), kept_lots(CYCLE, TWOS)]
[3, 2, 1]
>>> next(turn_rows(Group.cyclic(9)), None)
raises TooMany(8)
"""
OWN = """
>>> told = own_double(SWITCH)
>>> [told[0] == Double.both(Group.cyclic(2)), told[1], move_of(SWITCH, 0), move_of(SWITCH, 1), thing_of(SWITCH, (10 ** 50 + 1, -4))]
[True, (1, 1), (0, 1), (1, 0), 1]
>>> BLOCKS = Passing.of_left(((1, 0, 3, 2), (2, 3, 0, 1), (2, 3, 0, 1), (1, 0, 3, 2)))
>>> [own_double(BLOCKS)[0] == RING, own_double(BLOCKS)[1], [move_of(BLOCKS, thing) for thing in range(4)]]
[True, (1, 3, 3, 1), [(0, 1, 2, 3), (1, 0, 3, 2), (3, 2, 1, 0), (2, 3, 0, 1)]]
>>> [thing_of(BLOCKS, (1, 1, 0, 0)), thing_of(BLOCKS, (2, 0, 0, 0)), thing_of(BLOCKS, (0, 0, 0, -1))]
[0, 2, 3]
>>> [is_own(BLOCKS, RING, (1, 3, 3, 1)), is_own(BLOCKS, RING, (3, 1, 1, 3)), is_own(BLOCKS, RING, (1, 3, 1, 3)), is_own(BLOCKS, Double.both(Group.cyclic(4)), (1, 3, 3, 1))]
[True, True, False, False]
>>> [own_double(Passing.unmoved(3))[1], own_double(Passing.of_left(()))[0].size, is_own(SWITCH, Double.both(Group.cyclic(2)), (0, 1))]
[(0, 0, 0), 1, False]
>>> own_double(TURNS)
raises Refused(('quiet',))
"""
MAKING = """
>>> [stills(RING, 1), stills(RING, 2), choices_paper(RING, ((1, (0,)),)), choices_paper(RING, ((1, (0, 2)),)), choices_paper(RING, ((2, (0,)),))]
[(0, 2), (0, 1, 2, 3), ('own',), ('core', 2), ('lack', (0, 2))]
>>> made(RING, ((1, (0,)),)).left
((1, 0, 3, 2), (3, 2, 1, 0), (1, 0, 3, 2), (3, 2, 1, 0))
>>> [choices_paper(RING, ((1, (0, 2)), (2, (0, 1)))), made(RING, ((1, (0, 2)), (2, (0, 1)))).left, made(RING, ()).size]
[('own',), ((1, 0, 2, 3), (1, 0, 3, 2), (0, 1, 3, 2), (0, 1, 3, 2)), 0]
>>> [choices_of(SWITCH), choices_of(FOUR), is_choices_paper(RING, ((2, (0,)),), ("core", 1)), choices_paper(RING, ())]
[((1, (0,)),), ((7, (0, 7)),), False, ('lack', (0,))]
>>> [[len(list(all_quiet(size))) for size in (0, 1, 2, 3)], len(quiet_kinds(3)), quiet_kinds(2) == (Passing.unmoved(2), SWITCH), len(list(all_fair(2)))]
[[1, 1, 2, 12], 5, True, 4]
>>> made(RING, ((1, (0, 1)),))
raises InvalidOperation
"""
LEVELS = """
>>> [falls_paper(SWITCH)[0], letter_parts(SWITCH), levels(SWITCH), level(SWITCH), levels(FOUR), level(FOUR)]
['ways', ((0, 1),), (2, 1), 1, (4,), None]
>>> [is_falls_paper(SWITCH, ("ways", ((), (0,)))), is_falls_paper(SWITCH, ("ways", ((0, 0), (1, 0, 0)))), is_falls_paper(SWITCH, ("parts", (0,), (1,)))]
[True, True, False]
>>> BOTH = bent_union(SWITCH, Passing.unmoved(2), (1, 0), (0, 1))
>>> [BOTH.left, letter_parts(BOTH), levels(BOTH), drawn(BOTH)[1], drawn(BOTH)[0] == Passing.unmoved(2)]
[((1, 0, 3, 2), (1, 0, 3, 2), (0, 1, 2, 3), (0, 1, 2, 3)), ((0, 1), (2, 3)), (4, 2, 1), (0, 0, 1, 1), True]
>>> [letter_parts(SWITCH * SWITCH), is_kept_lot(FOUR, (0,)), part_table(FOUR, (0,)) == Passing.unmoved(1), levels(Passing.unmoved(0))]
[((0, 3), (1, 2)), True, True, (0,)]
>>> part_table(FOUR, (0, 2))
raises Refused(('kept', 0, 2))
>>> bent_union(SWITCH, FOUR, (1, 0, 2, 3), (0, 1))
raises Refused(('first',))
"""
MODULES = (errors, moves, groups, passing, words, vectors, still, doubles, listing, own, making, levels)


def all_names():
    """All names of the modules that the examples use."""
    names = {}
    for module in MODULES:
        names.update(vars(module))
    return names


class TestExamples(Case):

    def run_block(self, text, names):
        lines = [line for line in text.split("\n") if line]
        checked = 0
        for index, line in enumerate(lines):
            if not line.startswith(">>> "):
                continue
            told = lines[index + 1] if index + 1 < len(lines) else ">>> "
            if told.startswith(">>> "):
                exec(line[4:], names)
            elif told.startswith("raises "):
                self.check_error(line[4:], told[7:], names)
                checked += 1
            else:
                self.assertEqual(eval(line[4:], names), ast.literal_eval(told), line)
                checked += 1
        return checked

    def check_error(self, code, told, names):
        name, bracket, kept = told.partition("(")
        kept = ast.literal_eval(kept[:-1]) if bracket else None
        self.refuses(getattr(errors, name), kept, lambda: eval(code, names))

    def test_moves(self):
        self.assertEqual(self.run_block(MOVES, all_names()), 8)

    def test_groups(self):
        self.assertEqual(self.run_block(GROUPS, all_names()), 4)

    def test_tables(self):
        self.assertEqual(self.run_block(TABLES + PASSING, all_names()), 5)

    def test_words(self):
        self.assertEqual(self.run_block(TABLES + WORDS, all_names()), 7)

    def test_vectors(self):
        self.assertEqual(self.run_block(TABLES + VECTORS, all_names()), 6)

    def test_still_vectors(self):
        self.assertEqual(self.run_block(TABLES + STILL, all_names()), 6)

    def test_doubles(self):
        self.assertEqual(self.run_block(TABLES + DOUBLES, all_names()), 5)

    def test_listing(self):
        self.assertEqual(self.run_block(TABLES + LISTING, all_names()), 5)

    def test_own_doubles(self):
        self.assertEqual(self.run_block(TABLES + OWN, all_names()), 6)

    def test_making(self):
        self.assertEqual(self.run_block(TABLES + MAKING, all_names()), 6)

    def test_levels(self):
        self.assertEqual(self.run_block(TABLES + LEVELS, all_names()), 6)

    def test_what_the_document_says_of_its_tables(self):
        names = all_names()
        self.run_block(TABLES, names)
        for x in range(2):
            for y in range(2):
                self.assertEqual(names["SWITCH"].passed(x, y), (1 - y, 1 - x))
        for x in range(3):
            for y in range(3):
                self.assertEqual(names["TURNS"].passed(x, y), ((2 * x - y) % 3, x))
        self.assertEqual([names[name].is_quiet for name in ("SWITCH", "FOUR", "TURNS")], [True, True, False])
        for a in range(4):
            for b in range(4):
                self.assertEqual(names["RING"].circle.times(a, b), (a + b + 2 * a * b) % 4)


if __name__ == "__main__":
    unittest.main()
