"""Stage 15 [15.1] to [15.7]: colours by going through all rows of letters, rings by following strings."""

import itertools
import unittest

from truenames.double.making import all_fair
from truenames.errors import InvalidNumber, InvalidStrings, InvalidTable, TooMany
from truenames.string import closed
from truenames.string.closed import (
    braid_move, colour_count, colours, rings_of, shadow_colour_count, turned_round, with_turn,
)
from truenames.table.passing import Passing
from truenames.table.shadows import shadow_of, table_of_shadow
from tests.helper import FOUR, SWITCH, TURNS, same, some_values
from tests.quiet import BENT_PAIR, FAIR, QUIET
from tests.strings_model import colours_by_rows, drawn_strings, ends_by_strings, rings_by_ends
from tests.test_shadows import ABOUT, AROUND, BENT, EIGHT, SHADOWS, shadow_papers
from tests.wrong import TABLE, WrongCase, below, whole

NONE, ONE = Passing.unmoved(0), Passing.unmoved(1)
SMALL = [table for size in range(4) for table in all_fair(size)]
SHOWN = SMALL[::2] + FAIR + QUIET[16::3] + [ABOUT, BENT_PAIR.passed_back()]
LENGTHS = (0, 1, 2, 3, 5, 8, 13)


def listed(table, strings, word):
    return list(colours(table, strings, word))


class TestColours(WrongCase):

    def test_constants(self):
        self.assertEqual((closed.MAX_STRINGS, closed.MAX_CROSSINGS, closed.MAX_ROWS), (5, 40, 4096))

    def test_colours(self):
        for table in SHOWN:
            for strings in range(1, 6):
                if len(table) ** strings > 1300:
                    continue
                for word in drawn_strings(15 + strings, 3, strings, LENGTHS):
                    told = [row for row, _ in colours_by_rows(table, strings, word)]
                    self.gives(told, listed, table, strings, word)
                    self.gives(len(told), colour_count, table, strings, word)
                    self.gives(len(told), shadow_colour_count, shadow_of(table), strings, word)

    def test_colours_of_shadows(self):
        for rows in SHADOWS[::4]:
            for strings in (1, 2, 3):
                for word in drawn_strings(151, 2, strings, LENGTHS):
                    told = len(colours_by_rows(table_of_shadow(rows), strings, word))
                    self.gives(told, shadow_colour_count, rows, strings, word)

    def test_large_and_long_ones(self):
        """Rows of 4096, words of forty crossings."""
        for table, strings in ((EIGHT[0], 4), (FOUR * SWITCH, 4), (TURNS, 5), (ABOUT, 4)):
            word = drawn_strings(152, 1, strings, (40,))[0]
            told = [row for row, _ in colours_by_rows(table, strings, word)]
            self.assertEqual(listed(table, strings, word), told)
            self.assertEqual(colour_count(table, strings, word), len(told))
        self.assertEqual(colour_count(EIGHT[0], 4, ()), 4096)
        self.assertEqual(colour_count(Passing.unmoved(5), 5, ()), 3125)

    def test_bounds(self):
        for table, strings in ((EIGHT[0], 5), (Passing.unmoved(6), 5), (ABOUT, 5)):
            self.refuses(TooMany, 4096, listed, table, strings, ())
            self.refuses(TooMany, 4096, colour_count, table, strings, ())
            self.refuses(TooMany, 4096, shadow_colour_count, shadow_of(table), strings, ())
            self.refuses(InvalidStrings, None, colour_count, table, strings, (5,))
        self.refuses(InvalidStrings, None, colour_count, TURNS, 2, (1,) * 41)
        self.assertEqual(colour_count(TURNS, 2, (1,) * 40), 3)

    def test_edges(self):
        for strings in range(1, 6):
            self.gives([], listed, NONE, strings, ())
            self.gives(0, colour_count, NONE, strings, ())
            self.gives(0, shadow_colour_count, (), strings, ())
            self.gives([(0,) * strings], listed, ONE, strings, ())
        self.gives([(0,), (1,), (2,)], listed, TURNS, 1, ())
        self.gives([(0, 0)], listed, ONE, 2, (1, -1, -1))
        self.gives(9, colour_count, TURNS, 2, ())

    def test_quiet_tables_count_rings(self):
        """[15.4]"""
        for table in SMALL + FAIR:
            self.assertEqual(table.is_quiet, colour_count(table, 2, (1, 1)) == len(table) ** 2)
        for table in QUIET[::3]:
            for strings in (1, 2, 3):
                for word in drawn_strings(153, 3, strings, LENGTHS):
                    self.assertEqual(colour_count(table, strings, word), len(table) ** len(rings_of(strings, word)))

    def test_changes_that_leave_the_number(self):
        """[15.5]"""
        for table in SMALL[::7] + FAIR[:3]:
            for word in drawn_strings(154, 2, 4, (5, 8)):
                many = colour_count(table, 4, word)
                for at, i in itertools.product((0, 2, 5), (1, -1, 3, -2)):
                    self.assertEqual(colour_count(table, 4, word[:at] + (i, -i) + word[at:]), many)
                for one, other in (((1, 3), (3, 1)), ((-1, 3), (3, -1)), ((1, 2, 1), (2, 1, 2)), ((-3, -2, -3), (-2, -3, -2))):
                    ways = {colour_count(table, 4, word[:3] + part + word[3:]) for part in (one, other)}
                    self.assertEqual(len(ways), 1)
                for count in range(len(word) + 1):
                    self.assertEqual(colour_count(table, 4, turned_round(4, word, count)), many)

    def test_turns_put_in(self):
        """[15.6]"""
        for table in SMALL + FAIR[:3]:
            rows = shadow_of(table)
            calm = all(rows[x][x] == x for x in range(len(rows)))
            for sign in (1, -1):
                stays = [
                    colour_count(table, *with_turn(strings, word, sign)) == colour_count(table, strings, word)
                    for strings in (1, 2, 3) for word in drawn_strings(155, 2, strings, LENGTHS)
                ]
                self.assertTrue(all(stays) or not calm)
                told = len([x for x in range(len(rows)) if rows[x][x] == x])
                self.assertEqual(colour_count(table, *with_turn(1, (), sign)), told)

    def test_what_the_document_says_is_not_true(self):
        """[15.7]"""
        self.assertEqual((braid_move(2, ()), braid_move(2, (1, 1))), ((0, 1), (0, 1)))
        self.assertNotEqual(colour_count(TURNS, 2, ()), colour_count(TURNS, 2, (1, 1)))
        self.assertEqual((colour_count(TURNS, 2, (1,)), colour_count(TURNS, 2, (1, 1))), (3, 3))


class TestStrings(WrongCase):

    def test_moves_and_rings(self):
        for strings in range(1, 6):
            for word in drawn_strings(156 + strings, 25, strings, LENGTHS + (40,)):
                ends = ends_by_strings(strings, word)
                self.gives(ends, braid_move, strings, word)
                self.gives(rings_by_ends(ends), rings_of, strings, word)
                self.assertTrue(same(rings_of(strings, word), rings_by_ends(ends)))

    def test_turned_round(self):
        for strings in range(1, 6):
            for word in drawn_strings(157, 5, strings, LENGTHS):
                for count in range(len(word) + 1):
                    told = list(word)
                    for _ in range(count):
                        told.append(told.pop(0))
                    self.gives(tuple(told), turned_round, strings, word, count)
                self.refuses(InvalidNumber, len(word) + 1, turned_round, strings, word, len(word) + 1)

    def test_turns(self):
        for strings in range(1, 5):
            for word in drawn_strings(158, 4, strings, LENGTHS + (39,)):
                for sign in (1, -1):
                    self.gives((strings + 1, (*word, sign * strings)), with_turn, strings, word, sign)
        long = (1, -1) * 20
        self.gives((3, long[1:] + (2,)), with_turn, 2, long[1:], 1)
        self.refuses(TooMany, 40, with_turn, 2, long, 1)
        self.refuses(TooMany, 5, with_turn, 5, long, 1)
        self.refuses(TooMany, 5, with_turn, 5, (), -1)
        self.refuses(InvalidNumber, 0, with_turn, 5, long, 0)



def strings_word(value, strings):
    return type(value) is tuple and len(value) <= 40 and all(whole(entry) and 1 <= abs(entry) < strings for entry in value)


COUNT = (InvalidNumber, True, lambda value, told: below(value, 6) and value > 0)
WORD_OF_FIRST = (InvalidStrings, False, lambda value, told: strings_word(value, told[0]))
WORD_OF_SECOND = (InvalidStrings, False, lambda value, told: strings_word(value, told[1]))
SHADOW = (
    InvalidTable, False,
    lambda value, told: type(value) is tuple and len(value) <= 8
    and all(type(row) is tuple and len(row) == len(value) and all(below(x, len(value)) for x in row) for row in value)
    and shadow_papers(value) == [("shadow",)],
)
WORDS = ((), (1,), (1, -2), (-4,), (0,), (True,), [1], (10 ** 99,), (5,), ("1",), (1,) * 41)
MANY_ROWS = (TooMany, 4096, lambda told: len(told[0]) ** told[1] <= 4096)


class TestWrong(WrongCase):

    def test_colours(self):
        names = ["InvalidNumber", "InvalidStrings", "InvalidTable", "TooMany", "none"]
        others = [(TURNS, EIGHT[0], NONE, None), (1, 2, 5, 6, 0, True), WORDS]
        for call in (colour_count, lambda *told: next(colours(*told), None)):
            self.assertEqual(sorted(self.tries(call, [TABLE, COUNT, WORD_OF_SECOND], [MANY_ROWS], others, WORDS)), names)
        others = [(AROUND, BENT, ((0, 1), (1, 0)), (tuple(range(8)),) * 8, ()), (1, 2, 5, 6, 0, True), WORDS]
        found = self.tries(shadow_colour_count, [SHADOW, COUNT, WORD_OF_SECOND], [MANY_ROWS], others, WORDS)
        self.assertEqual(sorted(found), names)

    def test_words(self):
        for call in (braid_move, rings_of):
            found = self.tries(call, [COUNT, WORD_OF_FIRST], [], [(1, 2, 5, 6, 0, True), WORDS], WORDS)
            self.assertEqual(sorted(found), ["InvalidNumber", "InvalidStrings", "none"])
        count = (InvalidNumber, True, lambda value, told: below(value, len(told[1]) + 1))
        others = [(1, 2, 5, 6, None), WORDS, (0, 1, 2, 3, -1, True)]
        found = self.tries(turned_round, [COUNT, WORD_OF_FIRST, count], [], others, WORDS)
        self.assertEqual(sorted(found), ["InvalidNumber", "InvalidStrings", "none"])
        sign = (InvalidNumber, True, lambda value, told: whole(value) and value in (1, -1))
        few = (TooMany, 5, lambda told: told[0] < 5)
        short = (TooMany, 40, lambda told: len(told[1]) < 40)
        others = [(1, 2, 5, 6, None), WORDS + ((1,) * 40,), (1, -1, 0, 2, True)]
        found = self.tries(with_turn, [COUNT, WORD_OF_FIRST, sign], [few, short], others, WORDS)
        self.assertEqual(sorted(found), ["InvalidNumber", "InvalidStrings", "TooMany", "none"])

    def test_generators_wait_with_their_errors(self):
        for told, error in (
            ((None, 0, 0), InvalidTable), ((TURNS, 0, 0), InvalidNumber), ((TURNS, 1, 0), InvalidStrings),
            ((EIGHT[0], 5, ()), TooMany),
        ):
            waiting = colours(*told)
            with self.assertRaises(error):
                next(waiting)

    def test_near_words(self):
        for strings in range(1, 6):
            for value in some_values():
                if not strings_word(value, strings):
                    self.refuses(InvalidStrings, None, braid_move, strings, value)


if __name__ == "__main__":
    unittest.main()
