"""Stage 6 [6.1] to [6.7]: still vectors, reckoned by adding units until moves come again."""

import itertools
import math
import unittest
from unittest import mock

from truenames.errors import Refused, TooMany
from truenames.word import still
from truenames.word.still import (
    exponent, folded, folded_added, is_still, own_count, remainder, still_base, turnings,
)
from truenames.word.vectors import added, turning
from tests.helper import FOUR, SWITCH, TURNS
from tests.quiet import LARGE, MIDDLE, QUIET, SMALL, drawn_words, joined_left
from tests.test_vectors import MOST, NONE, VECTORS, TABLES
from tests.vector_model import (
    drawn_vectors, exponent_of, folded_vectors, idle, rounds, second, turning_by_word, unit,
)
from tests.wrong import QUIET as THEN_QUIET, TABLE, VECTOR, WrongCase

CALLS = (turnings, still_base, own_count, exponent)
LESS = [table for table in QUIET if math.prod(rounds(table)) <= 300]


def turnings_of(table):
    """All L of vectors, by going through all vectors with entries below the rounds."""
    return sorted({turning_by_word(table, vector) for vector in folded_vectors(table)})


def less(one, other):
    return tuple(a - b for a, b in zip(one, other))


class TestBase(WrongCase):

    def test_constant(self):
        self.assertEqual(still.MAX_TURNINGS, 1000)

    def test_turnings_and_numbers(self):
        for table in LESS:
            moves = turnings_of(table)
            self.gives(tuple(moves), turnings, table)
            self.gives(len(moves), own_count, table)
            self.gives(exponent_of(table), exponent, table)
        self.gives(64, own_count, FOUR_TWICE)
        self.gives(1, own_count, NONE)
        self.gives(1, exponent, NONE)
        self.gives(((),), turnings, NONE)

    def test_joined_left_makes_the_turnings(self):
        for table in QUIET:
            words = drawn_words(1, table, 30, (0, 1, 2, 5, 9))
            told = turnings(table)
            self.assertTrue({joined_left(table, word) for word in words} <= set(told))
            self.assertEqual(len(told), own_count(table))
            self.assertEqual(sorted(set(told)), list(told))

    def test_still_base(self):
        """Its vectors are still, have their form, and part the vectors into as many lots as there are L."""
        for table in LESS:
            base = still_base(table)
            self.gives(base, still_base, table)
            self.assertEqual(len(base), len(table))
            for index, vector in enumerate(base):
                self.assertEqual(turning_by_word(table, vector), idle(table))
                self.assertEqual(vector[:index], (0,) * index)
                self.assertGreaterEqual(vector[index], 1)
                for ahead in base[:index]:
                    self.assertIn(ahead[index], range(vector[index]))
            many = math.prod(vector[index] for index, vector in enumerate(base))
            self.assertEqual(many, len(turnings_of(table)))

    def test_base_of_large_tables(self):
        for table in LARGE:
            base = still_base(table)
            self.assertTrue(all(turning(table, vector) == idle(table) for vector in base))
            self.assertEqual(math.prod(vector[index] for index, vector in enumerate(base)), len(turnings(table)))
            self.assertEqual(exponent(table), exponent_of(table))

    def test_exponents(self):
        """[6.4]"""
        for table in QUIET:
            many = exponent(table)
            self.assertEqual(own_count(table) % many, 0)
            for prime in (2, 3, 5, 7):
                self.assertEqual(own_count(table) % prime == 0, many % prime == 0)
            for letter in range(len(table)):
                self.assertTrue(is_still(table, unit(table, letter, many)))
                self.assertTrue(is_still(table, unit(table, letter, -3 * many)))
            for smaller in range(1, many):
                self.assertFalse(all(is_still(table, unit(table, letter, smaller)) for letter in range(len(table))))

    def test_remainders(self):
        for table in QUIET:
            base = still_base(table)
            for vector in drawn_vectors(2, table, 6, -9, 9) + drawn_vectors(3, table, 2, -MOST, MOST):
                rest = remainder(table, vector)
                self.gives(rest, remainder, table, vector)
                self.assertEqual(turning_by_word(table, less(vector, rest)), idle(table))
                for index, entry in enumerate(rest):
                    self.assertIn(entry, range(base[index][index]))
                self.assertIs(is_still(table, vector), turning_by_word(table, vector) == idle(table))
                self.gives(turning(table, rest), turning, table, vector)
                self.assertEqual(is_still(table, less(vector, rest)), True)

    def test_remainders_of_all_small_vectors(self):
        for table in SMALL + [FOUR]:
            kept = {}
            for vector in folded_vectors(table):
                kept.setdefault(turning_by_word(table, vector), set()).add(remainder(table, vector))
            self.assertTrue(all(len(rests) == 1 for rests in kept.values()))
            self.assertEqual(len(set.union(*kept.values())), len(kept))

    def test_still_vectors_add_and_move(self):
        """[6.1]"""
        for table in MIDDLE + LARGE:
            for vector in drawn_vectors(4, table, 3, -5, 5):
                quiet = less(vector, remainder(table, vector))
                for other in still_base(table):
                    total = tuple(a + b for a, b in zip(quiet, other))
                    self.assertEqual(added(table, quiet, other), total)
                    self.assertTrue(is_still(table, total))
                    self.assertTrue(is_still(table, less(quiet, other)))
                move = turning(table, vector)
                self.assertTrue(is_still(table, tuple(quiet[move[x]] for x in range(len(table)))))

    def test_rules_of_remainders_and_folding(self):
        """[6.6]"""
        for table in QUIET:
            vectors = drawn_vectors(5, table, 4, -9, 9)
            for one, other in itertools.product(vectors, repeat=2):
                rests = remainder(table, one), remainder(table, other)
                self.assertEqual(remainder(table, added(table, one, other)), remainder(table, second(table, *rests)))
                folds = folded(table, one), folded(table, other)
                told = tuple(entry % exponent_of(table) for entry in second(table, *folds))
                self.gives(told, folded_added, table, one, other)
                self.assertEqual(folded(table, added(table, *folds)), told)
            for x, y in itertools.product(range(len(table)), repeat=2):
                same = remainder(table, unit(table, x)) == remainder(table, unit(table, y))
                self.assertEqual(same, table.left[x] == table.left[y])

    def test_folded(self):
        for table in QUIET:
            for vector in drawn_vectors(6, table, 5, -9, 9) + drawn_vectors(7, table, 2, -MOST, MOST):
                self.gives(tuple(entry % exponent_of(table) for entry in vector), folded, table, vector)
        self.gives((), folded, NONE, ())
        self.gives((1, 1), folded_added, SWITCH, (MOST, MOST), (0, 0))
        self.gives((0, 1), folded_added, SWITCH, (MOST, MOST), (MOST, 0))

    def test_folded_vectors_are_a_group(self):
        """[6.5]"""
        for table in [SWITCH, SMALL[-3], FOUR]:
            many = exponent_of(table)
            things = list(itertools.product(range(many), repeat=len(table)))
            for one in things[::3]:
                self.assertEqual(sorted(folded_added(table, one, other) for other in things), things)

    def test_what_the_document_says_is_not_true(self):
        """[6.7]"""
        self.assertEqual(exponent(FOUR), 2)
        self.assertTrue(any(move[move[x]] != x for move in FOUR.left for x in range(4)))
        self.assertTrue(is_still(FOUR, (2, 0, 0, 0)))
        self.assertFalse(is_still(FOUR, (1, 1, 0, 0)))


class TestEdges(WrongCase):

    def test_few_turnings(self):
        """No table of eight letters is known to have more than 1000, so the limit is set lower."""
        table = FOUR_TWICE
        count = own_count(table)
        for limit in (count, count - 1):
            with mock.patch.object(still, "MAX_TURNINGS", limit):
                calls = [(call, ()) for call in CALLS]
                calls += [(call, ((0,) * 8,)) for call in (remainder, is_still, folded)]
                calls += [(folded_added, ((0,) * 8, (1,) * 8))]
                for call, more in calls:
                    if limit == count:
                        call(table, *more)
                    else:
                        self.refuses(TooMany, limit, call, table, *more)
                    self.refuses(Refused, ("quiet",), call, TURNS, *[vector[:3] for vector in more])

    def test_wrong_arguments(self):
        for call in CALLS:
            found = self.tries(call, [TABLE], [THEN_QUIET], [()])
            self.assertEqual(sorted(found), ["InvalidTable", "Refused", "none"])
        names = ["InvalidTable", "InvalidVector", "Refused", "none"]
        for call in (remainder, is_still, folded):
            found = self.tries(call, [TABLE, VECTOR], [THEN_QUIET], [TABLES, VECTORS])
            self.assertEqual(sorted(found), names)
        found = self.tries(
            folded_added, [TABLE, VECTOR, VECTOR], [THEN_QUIET], [TABLES, VECTORS, VECTORS], [(MOST, -MOST)],
        )
        self.assertEqual(sorted(found), names)


FOUR_TWICE = next(table for table in LARGE if own_count(table) == 64)

if __name__ == "__main__":
    unittest.main()
