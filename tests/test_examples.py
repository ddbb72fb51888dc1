"""The examples of the document, as it prints them."""

import ast
import unittest

from truenames import errors
from truenames.desk import desk
from truenames.double import doubles, ideals, joins, listing, making, own, rings
from truenames.group import groups, moves
from truenames.string import closed, weights
from truenames.table import levels, passing, shadows
from truenames.text import strings
from truenames.word import still, vectors, words
from tests.helper import Case

TABLES = """
>>> SWITCH = Passing.of_left(((1, 0), (1, 0)))
>>> FOUR = Passing.of_dots(((0, 1, 3, 2), (2, 3, 1, 0), (1, 0, 2, 3), (3, 2, 0, 1)))
>>> TURNS = Passing((((0, 0), (2, 0), (1, 0)), ((2, 1), (1, 1), (0, 1)), ((1, 2), (0, 2), (2, 2))))
>>> RING = Double.of_turns(Group.cyclic(4), ((0, 1, 2, 3), (0, 3, 2, 1), (0, 1, 2, 3), (0, 3, 2, 1)))
"""
MOVES = """
>>> ROUND, SWAP = (1, 2, 0), (1, 0, 2)
>>> [joined(ROUND, SWAP), joined(SWAP, ROUND), undone(ROUND), raised(ROUND, 10 ** 50), raised(ROUND, -1), joined((), ())]
[(2, 1, 0), (0, 2, 1), (2, 0, 1), (1, 2, 0), (2, 0, 1), ()]
>>> [cycles((1, 0, 3, 4, 2)), order_of((1, 0, 3, 4, 2)), cycles(()), order_of(()), is_move((0, 2)), is_move((0, True))]
[((0, 1), (2, 3, 4)), 6, (), 1, False, False]
>>> [closure(3, (ROUND, SWAP)), closure(2, ()), closure(0, ())]
[((0, 1, 2), (0, 2, 1), (1, 0, 2), (1, 2, 0), (2, 0, 1), (2, 1, 0)), ((0, 1),), ((),)]
>>> [orbits(5, ((1, 0, 2, 3, 4), (0, 1, 2, 4, 3))), orbits(0, ())]
[((0, 1), (2,), (3, 4)), ()]
>>> [way(4, ((1, 2, 3, 0), (3, 0, 1, 2)), 0, 3), way(4, ((1, 2, 3, 0),), 0, 3), way(3, (), 1, 1), way(3, (SWAP,), 0, 2)]
[(1,), (0, 0, 0), (), None]
>>> [is_way(3, (ROUND, SWAP), 0, 2, (0, 0)), is_way(3, (ROUND, SWAP), 0, 2, (1, 0)), is_way(3, (ROUND,), 0, 0, (0, 0, 0))]
[True, True, False]
>>> joined(ROUND, (1, 0))
raises InvalidMove
>>> closure(8, ((1, 2, 3, 4, 5, 6, 7, 0), (1, 0, 2, 3, 4, 5, 6, 7)))
raises TooMany(1000)
"""
GROUPS = """
>>> SIX = Group.polygon(3)
>>> [SIX.unit, SIX.times(1, 2), SIX.times(2, 1), SIX.back(2), SIX.raised(2, -4), SIX.centre]
[0, 5, 3, 4, 4, (0,)]
>>> [SIX.closure((2,)), SIX.is_whole((0, 2, 4)), SIX.is_whole((0, 1)), SIX.quotient((0, 2, 4))[1], len(list(likenesses(SIX)))]
[(0, 2, 4), True, False, ((0, 2, 4), (1, 3, 5)), 6]
>>> [group_paper(((0, 1), (1, 1))), group_paper(((0, 1, 2), (1, 0, 1), (2, 2, 0)))]
[('back', 1), ('three', 1, 1, 2)]
>>> [like_paper(SIX, Group.cyclic(6)), Group.of_moves(3, ((1, 2, 0),)) == Group.cyclic(3)]
[('orders', ((1, 1), (2, 3), (3, 2)), ((1, 1), (2, 1), (3, 2), (6, 2))), True]
"""
PASSING = """
>>> BENT = (((0, 0), (1, 0)), ((1, 1), (0, 1)))
>>> [fair_paper(SWITCH.rows), fair_paper((((0, 0), (0, 1)), ((1, 0), (1, 1)))), fair_paper(BENT), is_fair_paper(BENT, ("three", 0, 1, 1)), fair_paper(())]
[('fair',), ('left', 0, 0, 1), ('three', 1, 0, 0), False, ('fair',)]
>>> [SWITCH.rows, SWITCH.passed(0, 0), TURNS.is_quiet, TURNS.passed_back().passed(2, 0), TURNS.mirrored().passed(1, 0), str(TURNS), FOUR.left[1]]
[(((1, 1), (0, 1)), ((1, 0), (0, 0))), (1, 1), False, (0, 1), (0, 2), 'fair table of 3 letters', (3, 2, 0, 1)]
>>> [dots_paper(((0, 1), (1, 0))), dots_paper(((0, 0), (1, 0))), dots_of(SWITCH), len(list(likenesses_of(TURNS))), least_form(SWITCH), (SWITCH * SWITCH).passed(0, 1)]
[('three', 0, 1, 0), ('row', 0, 0, 1), ((1, 0), (1, 0)), 6, '2 11011000', (2, 3)]
>>> Passing(BENT)
raises Refused(('three', 1, 0, 0))
>>> Passing.of_pair((1, 2, 0), (1, 0, 2))
raises Refused(('order', 0))
"""
WORDS = """
>>> [passed_at(SWITCH, (0, 0, 1), 0), passed_at(SWITCH, (0, 0, 1), 1), passed_at(TURNS, (0, 1, 2), 0), walked(FOUR, (0, 1, 2), (0, 1))]
[(1, 1, 1), (0, 0, 1), (2, 0, 2), (1, 2, 2)]
>>> [crossed(TURNS, (0, 1, 2), (2, 1, 0)), walked(TURNS, (0, 1, 2), (1, 0, 1)), crossed(TURNS, (0, 1, 2), (0, 1, 2)), crossed(SWITCH, (), ())]
[(0, 2, 0), (0, 2, 0), (0, 1, 2), ()]
>>> [true_names(SWITCH, (0, 0, 1)), true_names(FOUR, (0, 1, 2)), true_names(FOUR, (1, 2, 2)), word_of_names(FOUR, (0, 0, 1))]
[(0, 1, 1), (0, 1, 0), (1, 0, 0), (0, 0, 1)]
>>> [is_kin_paper(FOUR, (0, 1, 2), (1, 2, 2), ("passings", (0,))), is_kin_paper(FOUR, (0, 1, 2), (1, 2, 2), ("passings", (0, 1, 1))), kin_paper(SWITCH, (0, 1), (0, 0))[0]]
[True, True, 'name']
>>> [steps_between(FOUR, (0, 1, 2), (1, 2, 2)), steps_between(SWITCH, (0, 1), (0, 0)), kin_count(FOUR, (0, 1, 2)), list(kin_words(FOUR, (0, 1, 2)))]
[1, None, 3, [(0, 0, 1), (0, 1, 2), (1, 2, 2)]]
>>> true_names(TURNS, (0, 1))
raises Refused(('quiet',))
>>> passed_at(TURNS, (0, 1), 1)
raises InvalidNumber(1)
"""
VECTORS = """
>>> [vector_of(SWITCH, (0, 1)), vector_of(SWITCH, (0, 0)), word_of(SWITCH, (2, 0)), vector_of(FOUR, (0, 1, 2)), turning(SWITCH, (-3, 10 ** 50))]
[(2, 0), (1, 1), (0, 1), (2, 1, 0, 0), (1, 0)]
>>> [added(SWITCH, (1, 0), (1, 0)), taken_back(SWITCH, (1, 0)), power(SWITCH, (1, 0), 3), power(SWITCH, (1, 0), -1), power(SWITCH, (2, 1), 0)]
[(1, 1), (0, -1), (2, 1), (0, -1), (0, 0)]
>>> [rest_behind(SWITCH, (1, 0), (2, 0)), rest_ahead(SWITCH, (1, 0), (2, 0)), is_beginning(SWITCH, (1, 0), (2, 0)), is_ending(SWITCH, (1, 0), (2, 0))]
[(0, 1), (2, -1), True, False]
>>> [least_common(SWITCH, (2, 0), (0, 1)), greatest_common(SWITCH, (2, 0), (1, 1))]
[((2, 1), (0, 1), (0, 2)), ((1, 0), (0, 1), (1, 0))]
>>> vector_of(TURNS, (0, 1))
raises Refused(('quiet',))
>>> power(SWITCH, (10 ** 40, 0), 10 ** 40)
raises TooMany(60)
"""
STILL = """
>>> [still_base(SWITCH), own_count(SWITCH), exponent(SWITCH), turnings(SWITCH)]
[((1, 1), (0, 2)), 2, 2, ((0, 1), (1, 0))]
>>> [still_base(FOUR), own_count(FOUR), exponent(FOUR), turnings(FOUR)[:3]]
[((1, 1, 1, 1), (0, 2, 0, 0), (0, 0, 2, 0), (0, 0, 0, 2)), 8, 2, ((0, 1, 2, 3), (0, 1, 3, 2), (1, 0, 2, 3))]
>>> [remainder(FOUR, (1, 0, 0, 0)), remainder(SWITCH, (-3, 10 ** 50)), is_still(FOUR, (1, 1, 1, 1)), is_still(FOUR, (1, 1, 0, 0))]
[(0, 1, 1, 1), (0, 1), True, False]
>>> [folded(SWITCH, (-3, 4)), folded_added(SWITCH, (1, 0), (1, 1)), folded_added(SWITCH, (3, 2), (-1, 5))]
[(1, 0), (0, 1), (0, 1)]
>>> BENT = Passing.of_left(((0, 1, 2), (0, 1, 2), (1, 0, 2)))
>>> [still_base(BENT), exponent(BENT), still_base(Passing.unmoved(2)), still_base(Passing.unmoved(0)), own_count(Passing.unmoved(0))]
[((1, 0, 0), (0, 1, 0), (0, 0, 2)), 2, ((1, 0), (0, 1)), (), 1]
>>> still_base(TURNS)
raises Refused(('quiet',))
"""
DOUBLES = """
>>> [RING.circle.rows[1], RING.star(1, 1), RING.star(1, 2), RING.is_plain, str(RING), len(RING * Double.both(Group.cyclic(2)))]
[(1, 0, 3, 2), 2, 0, False, 'double of 4 things', 8]
>>> [table_of(RING).passed(1, 1), table_of(RING).passed(1, 2), table_of(RING).is_quiet, RING == Double(RING.plus, RING.circle), ~RING == RING]
[(3, 3), (2, 1), True, True, True]
>>> THREE = ((0, 1, 2), (0, 2, 1), (0, 2, 1))
>>> [turns_paper(Group.cyclic(3), THREE), is_turns_paper(Group.cyclic(3), THREE, ("joined", 2, 1)), turns_paper(RING.plus, RING.turns)]
[('joined', 1, 2), True, ('turns',)]
>>> [turns_paper(Group.cyclic(2), ((0, 1), (1, 0))), double_paper(Group.cyclic(2), Group(((1, 0), (0, 1)))), Double.both(Group.polygon(3)) == Double.about(Group.polygon(3))]
[('likeness', 1, 0, 0), ('rule', 0, 0, 0), False]
>>> Double.of_turns(Group.cyclic(3), THREE)
raises Refused(('joined', 1, 2))
"""
LISTING = """
>>> CYCLE, TWOS, SIX = Group.cyclic(4), Group.cyclic(2) * Group.cyclic(2), Group.polygon(3)
>>> list(turn_rows(CYCLE))
[((0, 1, 2, 3), (0, 1, 2, 3), (0, 1, 2, 3), (0, 1, 2, 3)), ((0, 1, 2, 3), (0, 3, 2, 1), (0, 1, 2, 3), (0, 3, 2, 1))]
>>> [len(list(turn_rows(TWOS))), len(list(doubles_on(SIX))), kind_count(Group.quaternions()), [double.is_plain for double in doubles_on(CYCLE)]]
[4, 4, 8, [True, False]]
>>> [turns_like(CYCLE, TWOS), turns_like(TWOS, CYCLE), turns_like(Group.cyclic(6), SIX), turns_like(CYCLE, SIX)]
[1, 3, 1, 0]
>>> [kept_lots(SIX, Group.cyclic(6)), kept_lots(SIX, SIX), kept_lots(CYCLE, TWOS)]
[3, 2, 1]
>>> next(turn_rows(Group.cyclic(9)), None)
raises TooMany(8)
"""
OWN = """
>>> told = own_double(SWITCH)
>>> [told[0] == Double.both(Group.cyclic(2)), told[1], move_of(SWITCH, 0), move_of(SWITCH, 1), thing_of(SWITCH, (10 ** 50 + 1, -4))]
[True, (1, 1), (0, 1), (1, 0), 1]
>>> BLOCKS = Passing.of_left(((1, 0, 3, 2), (2, 3, 0, 1), (2, 3, 0, 1), (1, 0, 3, 2)))
>>> [own_double(BLOCKS)[0] == RING, own_double(BLOCKS)[1], [move_of(BLOCKS, thing) for thing in range(4)]]
[True, (1, 3, 3, 1), [(0, 1, 2, 3), (1, 0, 3, 2), (3, 2, 1, 0), (2, 3, 0, 1)]]
>>> [thing_of(BLOCKS, (1, 1, 0, 0)), thing_of(BLOCKS, (2, 0, 0, 0)), thing_of(BLOCKS, (0, 0, 0, -1))]
[0, 2, 3]
>>> [is_own(BLOCKS, RING, (1, 3, 3, 1)), is_own(BLOCKS, RING, (3, 1, 1, 3)), is_own(BLOCKS, RING, (1, 3, 1, 3)), is_own(BLOCKS, Double.both(Group.cyclic(4)), (1, 3, 3, 1))]
[True, True, False, False]
>>> [own_double(Passing.unmoved(3))[1], own_double(Passing.of_left(()))[0].size, is_own(SWITCH, Double.both(Group.cyclic(2)), (0, 1))]
[(0, 0, 0), 1, False]
>>> own_double(TURNS)
raises Refused(('quiet',))
"""
MAKING = """
>>> [stills(RING, 1), stills(RING, 2), choices_paper(RING, ((1, (0,)),)), choices_paper(RING, ((1, (0, 2)),)), choices_paper(RING, ((2, (0,)),))]
[(0, 2), (0, 1, 2, 3), ('own',), ('core', 2), ('lack', (0, 2))]
>>> made(RING, ((1, (0,)),)).left
((1, 0, 3, 2), (3, 2, 1, 0), (1, 0, 3, 2), (3, 2, 1, 0))
>>> [choices_paper(RING, ((1, (0, 2)), (2, (0, 1)))), made(RING, ((1, (0, 2)), (2, (0, 1)))).left, made(RING, ()).size]
[('own',), ((1, 0, 2, 3), (1, 0, 3, 2), (0, 1, 3, 2), (0, 1, 3, 2)), 0]
>>> [choices_of(SWITCH), choices_of(FOUR), is_choices_paper(RING, ((2, (0,)),), ("core", 1)), choices_paper(RING, ())]
[((1, (0,)),), ((7, (0, 7)),), False, ('lack', (0,))]
>>> [[len(list(all_quiet(size))) for size in (0, 1, 2, 3)], len(quiet_kinds(3)), quiet_kinds(2) == (Passing.unmoved(2), SWITCH), len(list(all_fair(2)))]
[[1, 1, 2, 12], 5, True, 4]
>>> made(RING, ((1, (0, 1)),))
raises InvalidOperation
"""
LEVELS = """
>>> [falls_paper(SWITCH)[0], letter_parts(SWITCH), levels(SWITCH), level(SWITCH), levels(FOUR), level(FOUR)]
['ways', ((0, 1),), (2, 1), 1, (4,), None]
>>> [is_falls_paper(SWITCH, ("ways", ((), (0,)))), is_falls_paper(SWITCH, ("ways", ((0, 0), (1, 0, 0)))), is_falls_paper(SWITCH, ("parts", (0,), (1,)))]
[True, True, False]
>>> BOTH = bent_union(SWITCH, Passing.unmoved(2), (1, 0), (0, 1))
>>> [BOTH.left, letter_parts(BOTH), levels(BOTH), drawn(BOTH)[1], drawn(BOTH)[0] == Passing.unmoved(2)]
[((1, 0, 3, 2), (1, 0, 3, 2), (0, 1, 2, 3), (0, 1, 2, 3)), ((0, 1), (2, 3)), (4, 2, 1), (0, 0, 1, 1), True]
>>> [letter_parts(SWITCH * SWITCH), is_kept_lot(FOUR, (0,)), part_table(FOUR, (0,)) == Passing.unmoved(1), levels(Passing.unmoved(0))]
[((0, 3), (1, 2)), True, True, (0,)]
>>> part_table(FOUR, (0, 2))
raises Refused(('kept', 0, 2))
>>> bent_union(SWITCH, FOUR, (1, 0, 2, 3), (0, 1))
raises Refused(('first',))
"""
IDEALS = """
>>> SIX = Double.of_turns(Group.cyclic(3) * Group.cyclic(2), ((0, 1, 2, 3, 4, 5), (0, 1, 4, 5, 2, 3)) * 3)
>>> [left_parts(SIX), ideals(SIX)]
[((0,), (0, 1), (0, 2, 4), (0, 1, 2, 3, 4, 5)), ((0,), (0, 2, 4), (0, 1, 2, 3, 4, 5))]
>>> [right_row(SIX), left_row(SIX), still_part(SIX), still_centre(SIX), still_levels(SIX)]
[((0, 1, 2, 3, 4, 5), (0, 2, 4), (0,)), ((0, 1, 2, 3, 4, 5), (0, 2, 4)), (0, 2, 4), (0,), (6, 2, 1)]
>>> [ideals(RING), right_row(RING), left_row(RING) == right_row(RING), still_centre(RING), still_levels(RING)]
[((0,), (0, 2), (0, 1, 2, 3)), ((0, 1, 2, 3), (0, 2), (0,)), True, (0, 2), (4, 2, 1)]
>>> quotient, sides = quotient_of(RING, (0, 2))
>>> [quotient == Double.both(Group.cyclic(2)), sides, starred(RING, (1,), (1,)), starred(RING, (), (1,)), is_left_part(SIX, (0, 1)), is_ideal(SIX, (0, 1))]
[True, ((0, 2), (1, 3)), (0, 2), (0,), True, False]
>>> polygon = Double.about(Group.polygon(3))
>>> [len(left_parts(polygon)), still_part(polygon), still_levels(polygon), right_row(polygon) == left_row(polygon)]
[3, (0,), (6,), True]
>>> quotient_of(SIX, (0, 1))
raises Refused(('ideal',))
"""
RINGS = """
>>> SIX = Double.of_turns(Group.cyclic(6), tuple([tuple([(-1) ** a * b % 6 for b in range(6)]) for a in range(6)]))
>>> [ring_paper(RING), ring_paper(SIX), ring_paper(Double.both(Group.polygon(3)))[0], is_ring_paper(SIX, ("adds", 3, 5, 4)), is_ring_paper(SIX, ("adds", 1, 1, 3))]
[('ring',), ('adds', 1, 1, 1), 'plus', True, False]
>>> [multiples(4, 2) == RING, multiples(5, 0) == Double.both(Group.cyclic(5)), multiples(8, 2).circle.is_commutative]
[True, True, True]
>>> [both_ways_paper(RING), both_ways_paper(SIX), both_ways_paper(multiples(8, 2)), is_both_ways_paper(multiples(8, 2), ("apart", 3, 5, 7))]
[('both',), ('both',), ('apart', 1, 1, 1), True]
>>> [swapped(RING).plus == RING.circle, swapped(RING).turns, double_of_ring(Group.cyclic(2), ((0, 0), (0, 0))) == Double.both(Group.cyclic(2))]
[True, ((0, 1, 2, 3), (0, 3, 2, 1), (0, 1, 2, 3), (0, 3, 2, 1)), True]
>>> double_of_ring(Group.cyclic(3), ((0, 0, 0), (0, 1, 2), (0, 2, 1)))
raises Refused(('back', 2))
>>> swapped(multiples(8, 2))
raises Refused(('apart', 1, 1, 1))
"""
SHADOWS = """
>>> [shadow_of(SWITCH), shadow_of(TURNS), shadow_of(Passing.of_pair((1, 0), (0, 1))), shadow_of(Passing.unmoved(0))]
[((0, 1), (0, 1)), ((0, 2, 1), (2, 1, 0), (1, 0, 2)), ((1, 0), (1, 0)), ()]
>>> [shadow_paper(((0, 1), (1, 0))), shadow_paper(((0, 0), (0, 1))), is_shadow_paper(((0, 1), (1, 0)), ("three", 1, 0, 1)), shadow_paper(shadow_of(TURNS))]
[('three', 1, 0, 0), ('row', 0, 0, 1), True, ('shadow',)]
>>> [row_map(TURNS, (0, 1, 2)), row_back(TURNS, (0, 2, 0)), row_map(TURNS, (2, 0, 2)), shadow_passed(shadow_of(TURNS), (0, 2, 0), 0)]
[(0, 2, 0), (0, 1, 2), (2, 1, 0), (2, 1, 0)]
>>> [table_of_shadow(shadow_of(TURNS)).passed(0, 1), shadow_of(table_of_shadow(shadow_of(TURNS))) == shadow_of(TURNS), row_map(SWITCH, (0, 0))]
[(1, 2), True, (0, 1)]
>>> [calm_paper(shadow_of(TURNS)), is_calm_paper(((1, 0), (1, 0)), ("letter", 0)), is_calm_paper(((1, 0), (1, 0)), ("letter", 1)), is_calm_paper((), ("calm",))]
[('calm',), True, True, True]
>>> table_of_shadow(((0, 1), (1, 0)))
raises Refused(('three', 1, 0, 0))
"""
CLOSED = """
>>> [colour_count(SWITCH, 2, (1, 1, 1)), colour_count(SWITCH, 2, (1, 1)), list(colours(SWITCH, 2, (1,))), rings_of(2, (1, 1))]
[2, 4, [(0, 1), (1, 0)], ((0,), (1,))]
>>> [colour_count(TURNS, 2, (1,)), colour_count(TURNS, 2, (1, 1)), colour_count(TURNS, 2, (1, 1, 1)), list(colours(TURNS, 2, (1, 1)))]
[3, 3, 9, [(0, 0), (1, 1), (2, 2)]]
>>> [shadow_colour_count(((0, 2, 1), (2, 1, 0), (1, 0, 2)), 2, (1, 1, 1)), shadow_colour_count(((1, 0), (1, 0)), 2, (1,)), shadow_colour_count(((1, 0), (1, 0)), 1, ())]
[9, 0, 2]
>>> [braid_move(3, (1, 2)), rings_of(3, (1, -2)), rings_of(4, (1, 3)), turned_round(3, (1, 2, -1), 1), with_turn(1, (), -1)]
[(2, 0, 1), ((0, 1, 2),), ((0, 1), (2, 3)), (2, -1, 1), (2, (-1,))]
>>> colour_count(SWITCH, 2, (2,))
raises InvalidStrings
>>> with_turn(5, (), 1)
raises TooMany(5)
"""
WEIGHTS = """
>>> [of_letters(SWITCH, 4, (0, 1)), weight_counts(SWITCH, 4), weight_counts(SWITCH, 3), weight_counts(Passing.unmoved(2), 5)]
[((2, 0), (0, 2)), (64, 2), (27, 3), (625, 1)]
>>> [weights_paper(SWITCH, 4, ((3, 1), (1, 2))), weights_paper(SWITCH, 4, ((0, 1), (0, 0)))[0], is_weights_paper(SWITCH, 4, ((0, 1), (0, 0)), ("three", 0, 0, 1))]
[('fair',), 'three', True]
>>> [is_source_paper(SWITCH, 4, ((2, 0), (0, 2)), ("letters", (3, 2))), is_source_paper(SWITCH, 4, ((1, 0), (0, 3)), ("bar", ((2, 0), (0, 0))))]
[True, True]
>>> [diagonal_of(((2, 4), (6, 8))), diagonal_of(((4, 6),)), diagonal_of(((0, 0),)), diagonal_of(())]
[(2, 4), (2,), (), ()]
>>> [string_sums(SWITCH, 4, ((1, 0), (0, 1)), 2, (1, 1)), string_sums(SWITCH, 4, ((1, 3), (3, 1)), 2, (1,)), string_sums(SWITCH, 4, ((1, 3), (3, 1)), 2, (-1,))]
[{0: 2, 2: 2}, {3: 2}, {1: 2}]
>>> of_letters(SWITCH, 4, (0, 4))
raises InvalidWeights
"""
JOINS = """
>>> SIX = Group.polygon(3)
>>> TWO, THREE = Double.both(Group.cyclic(2)), Double.both(Group.cyclic(3))
>>> MIRROR = join(TWO, THREE, ((0, 1, 2), (0, 2, 1)))
>>> [MIRROR.plus.is_commutative, MIRROR.circle.is_commutative, MIRROR.circle.times(3, 1), MIRROR.circle.times(1, 3), MIRROR.turns[4], MIRROR.is_plain]
[True, False, 5, 4, (0, 2, 1, 3, 5, 4), False]
>>> [join(TWO, THREE, ((0, 1, 2), (0, 1, 2))) == TWO * THREE, join_paper(TWO, THREE, ((0, 1, 2), (1, 0, 2))), join_paper(THREE, THREE, ((0, 1, 2), (0, 2, 1), (0, 1, 2)))]
[True, ('likeness', 1, 0, 0), ('joined', 1, 2)]
>>> [double_form(TWO), double_form(least_double(TWO.renamed((1, 0)))), list(double_likenesses(RING)), len(list(double_likenesses(Double.both(SIX))))]
['0 1 1 0 0 1 1 0', '0 1 1 0 0 1 1 0', [(0, 1, 2, 3), (0, 3, 2, 1)], 6]
>>> [like_double_paper(RING, RING.renamed((1, 0, 3, 2)))[0], like_double_paper(Double.both(SIX), Double.about(SIX))[0], is_like_double_paper(TWO, TWO, ("like", (1, 0)))]
['like', 'forms', False]
>>> join(TWO, THREE, ((0, 1, 2), (1, 0, 2)))
raises Refused(('likeness', 1, 0, 0))
"""
DESK = """
>>> desk = Desk(2)
>>> [desk.keep("t", SWITCH), desk.keep("w", (0, 0)), desk.keep("v", (1, 1)), desk.promise("p", ("kin", "t", "w", "v")), str(desk)]
[1, 2, 3, 4, 'desk of 2 letters: 3 items, 1 promises']
>>> [desk.pass_at("t", "w", 0), desk.item("w"), desk.rename((1, 0)), desk.item("w"), desk.item("t") == SWITCH, desk.undo(times=2), desk.item("w")]
[5, (1, 1), 6, (0, 0), True, 4, (0, 0)]
>>> desk.keep("w", (0, 1))
raises Refused(('promise', 'p'))
"""
TEXTS = """
>>> [write_value((0, 1, 1)), write_value(()), write_value(SWITCH), write_value(Group.cyclic(2))]
['word 0 1 1', 'word', 'table 2\\n1,1 0,1\\n1,0 0,0', 'group 2\\n0 1\\n1 0']
>>> [read_value("table 1\\n0,0") == Passing.unmoved(1), read_value("table 0") == Passing.unmoved(0), read_value("word 5 0"), read_value(write_value(RING)) == RING]
[True, True, (5, 0), True]
>>> write_value((24,))
raises InvalidOperation
>>> read_value("word 01")
raises ParseError(0)
>>> read_value("group 2\\n0 1")
raises ParseError(2)
>>> read_value("table 1\\n0,0\\n")
raises ParseError(2)
"""
MODULES = (
    errors, moves, groups, passing, words, vectors, still, doubles, listing, own, making, levels,
    ideals, rings, shadows, closed, weights, joins, desk, strings,
)


def all_names():
    """All names of the modules that the examples use."""
    names = {}
    for module in MODULES:
        names.update(vars(module))
    return names


class TestExamples(Case):

    def run_block(self, text, names):
        lines = [line for line in text.split("\n") if line]
        checked = 0
        for index, line in enumerate(lines):
            if not line.startswith(">>> "):
                continue
            told = lines[index + 1] if index + 1 < len(lines) else ">>> "
            if told.startswith(">>> "):
                exec(line[4:], names)
            elif told.startswith("raises "):
                self.check_error(line[4:], told[7:], names)
                checked += 1
            else:
                self.assertEqual(eval(line[4:], names), ast.literal_eval(told), line)
                checked += 1
        return checked

    def check_error(self, code, told, names):
        name, bracket, kept = told.partition("(")
        kept = ast.literal_eval(kept[:-1]) if bracket else None
        self.refuses(getattr(errors, name), kept, lambda: eval(code, names))

    def test_moves(self):
        self.assertEqual(self.run_block(MOVES, all_names()), 8)

    def test_groups(self):
        self.assertEqual(self.run_block(GROUPS, all_names()), 4)

    def test_tables(self):
        self.assertEqual(self.run_block(TABLES + PASSING, all_names()), 5)

    def test_words(self):
        self.assertEqual(self.run_block(TABLES + WORDS, all_names()), 7)

    def test_vectors(self):
        self.assertEqual(self.run_block(TABLES + VECTORS, all_names()), 6)

    def test_still_vectors(self):
        self.assertEqual(self.run_block(TABLES + STILL, all_names()), 6)

    def test_doubles(self):
        self.assertEqual(self.run_block(TABLES + DOUBLES, all_names()), 5)

    def test_listing(self):
        self.assertEqual(self.run_block(TABLES + LISTING, all_names()), 5)

    def test_own_doubles(self):
        self.assertEqual(self.run_block(TABLES + OWN, all_names()), 6)

    def test_making(self):
        self.assertEqual(self.run_block(TABLES + MAKING, all_names()), 6)

    def test_levels(self):
        self.assertEqual(self.run_block(TABLES + LEVELS, all_names()), 6)

    def test_parts_of_doubles(self):
        self.assertEqual(self.run_block(TABLES + IDEALS, all_names()), 6)

    def test_rings(self):
        self.assertEqual(self.run_block(TABLES + RINGS, all_names()), 6)

    def test_shadows(self):
        self.assertEqual(self.run_block(TABLES + SHADOWS, all_names()), 6)

    def test_closed_strings(self):
        self.assertEqual(self.run_block(TABLES + CLOSED, all_names()), 6)

    def test_weights(self):
        self.assertEqual(self.run_block(TABLES + WEIGHTS, all_names()), 6)

    def test_joins(self):
        self.assertEqual(self.run_block(TABLES + JOINS, all_names()), 5)

    def test_desk(self):
        self.assertEqual(self.run_block(TABLES + DESK, all_names()), 3)

    def test_texts(self):
        self.assertEqual(self.run_block(TABLES + TEXTS, all_names()), 6)

    def test_what_the_document_says_of_its_tables(self):
        names = all_names()
        self.run_block(TABLES, names)
        for x in range(2):
            for y in range(2):
                self.assertEqual(names["SWITCH"].passed(x, y), (1 - y, 1 - x))
        for x in range(3):
            for y in range(3):
                self.assertEqual(names["TURNS"].passed(x, y), ((2 * x - y) % 3, x))
        self.assertEqual([names[name].is_quiet for name in ("SWITCH", "FOUR", "TURNS")], [True, True, False])
        for a in range(4):
            for b in range(4):
                self.assertEqual(names["RING"].circle.times(a, b), (a + b + 2 * a * b) % 4)


if __name__ == "__main__":
    unittest.main()
