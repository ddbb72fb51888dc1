"""Stage 5 [5.1] to [5.5]: vectors, reckoned by words and by what the points tell of them."""

import itertools
import unittest

from truenames.errors import InvalidNumber, InvalidVector, Refused, TooMany
from truenames.table.passing import Passing
from truenames.word.vectors import (
    added, greatest_common, is_beginning, is_ending, least_common, power, rest_ahead, rest_behind, taken_back, turning,
    vector_of, word_of,
)
from truenames.word.words import kin_words
from tests.helper import FOUR, SWITCH, TURNS, some_values
from tests.quiet import BLOCKS, LARGE, MIDDLE, QUIET, SMALL, all_words, drawn_words, joined_left, names_by_passing
from tests.vector_model import drawn_vectors, moved_by, second, turning_by_word, unit
from tests.wrong import INTEGER, QUIET as THEN_QUIET, TABLE, VECTOR, WORD, WrongCase, is_vector

NONE = Passing.unmoved(0)
ONE = Passing.unmoved(1)
MOST = 10 ** 60 - 1


def zero(table):
    return (0,) * len(table)


class TestVectors(WrongCase):

    def test_vectors_of_words(self):
        for table in QUIET:
            for word in drawn_words(1, table, 5, (0, 1, 2, 5, 30)):
                names = names_by_passing(table, word)
                told = tuple(names.count(letter) for letter in range(len(table)))
                self.gives(told, vector_of, table, word)
                self.gives(joined_left(table, word), turning, table, told)
        self.gives((100, 100), vector_of, Passing.unmoved(2), (0, 1) * 100)
        self.gives((), vector_of, NONE, ())
        self.gives((0, 0), vector_of, SWITCH, ())

    def test_turning(self):
        for table in QUIET:
            vectors = drawn_vectors(2, table, 5, -4, 4) + drawn_vectors(3, table, 3, -MOST, MOST)
            for vector in vectors:
                told = turning_by_word(table, vector)
                self.gives(told, turning, table, vector)
                for other in vectors[:3]:
                    move = turning_by_word(table, other)
                    joined = tuple(told[move[x]] for x in range(len(table)))
                    self.assertEqual(turning_by_word(table, second(table, vector, other)), joined)
            self.gives(tuple(range(len(table))), turning, table, zero(table))

    def test_added(self):
        for table in QUIET:
            vectors = drawn_vectors(4, table, 4, -3, 3) + drawn_vectors(5, table, 2, -(10 ** 59), 10 ** 59)
            for one, other in itertools.product(vectors, repeat=2):
                self.gives(second(table, one, other), added, table, one, other)
            for one, other, third in itertools.product(vectors[:3], repeat=3):
                told = added(table, added(table, one, other), third)
                self.assertEqual(added(table, one, added(table, other, third)), told)
            self.gives(vectors[0], added, table, vectors[0], zero(table))
            self.gives(vectors[0], added, table, zero(table), vectors[0])

    def test_words_behind_one_another(self):
        for table in SMALL + MIDDLE:
            for one, other in itertools.product(drawn_words(6, table, 4, (0, 1, 3, 8)), repeat=2):
                told = added(table, vector_of(table, one), vector_of(table, other))
                self.assertEqual(vector_of(table, one + other), told)

    def test_taken_back(self):
        for table in QUIET:
            for vector in drawn_vectors(7, table, 5, -5, 5) + drawn_vectors(8, table, 2, -MOST, MOST):
                move = turning_by_word(table, vector)
                told = tuple(-vector[move[x]] for x in range(len(table)))
                self.gives(told, taken_back, table, vector)
                self.assertEqual(second(table, vector, told), zero(table))
                self.assertEqual(second(table, told, vector), zero(table))

    def test_powers(self):
        for table in QUIET:
            for vector in drawn_vectors(9, table, 3, -2, 2):
                told = zero(table)
                back = zero(table)
                for many in range(20):
                    self.gives(told, power, table, vector, many)
                    self.gives(back, power, table, vector, -many)
                    if any(vector) and many > 0:
                        self.assertNotEqual(told, zero(table))
                    told = second(table, told, vector)
                    back = second(table, back, taken_back(table, vector))

    def test_great_powers(self):
        for table in QUIET:
            for vector in drawn_vectors(10, table, 2, -3, 3):
                for one, other in itertools.product((10 ** 50 + 7, -(10 ** 55) - 3, 5), repeat=2):
                    told = second(table, power(table, vector, one), power(table, vector, other))
                    self.gives(told, power, table, vector, one + other)
            self.gives(zero(table), power, table, zero(table), MOST)
            self.gives(zero(table), power, table, zero(table), -MOST)
            self.gives(zero(table), power, table, drawn_vectors(11, table, 1, -MOST, MOST)[0], 0)

    def test_word_of(self):
        for table in SMALL + [FOUR, BLOCKS]:
            for length in range(4):
                leasts = {}
                for word in all_words(table, length):
                    names = names_by_passing(table, word)
                    vector = tuple(names.count(letter) for letter in range(len(table)))
                    leasts.setdefault(vector, word)
                for vector, word in leasts.items():
                    self.gives(word, word_of, table, vector)
        for table in MIDDLE + LARGE:
            for word in drawn_words(12, table, 3, (5, 30, 200)):
                vector = vector_of(table, word)
                least = word_of(table, vector)
                self.assertEqual(vector_of(table, least), vector)
                self.assertLessEqual(least, word)
                if len(word) == 5:
                    self.assertEqual(least, next(kin_words(table, word)))

    def test_edges_of_word_of(self):
        two = Passing.unmoved(2)
        self.gives((0,) * 120 + (1,) * 80, word_of, two, (120, 80))
        self.refuses(TooMany, 200, word_of, two, (120, 81))
        self.refuses(TooMany, 200, word_of, two, (0, MOST))
        self.refuses(InvalidVector, None, word_of, two, (MOST, -1))
        self.refuses(InvalidVector, None, word_of, TURNS, (201, -1, 0))
        self.refuses(Refused, ("quiet",), word_of, TURNS, (201, 0, 0))
        self.gives((), word_of, NONE, ())
        self.gives((), word_of, SWITCH, (0, 0))

    def test_rests(self):
        for table in QUIET:
            vectors = drawn_vectors(13, table, 4, -3, 3) + drawn_vectors(14, table, 2, -(10 ** 59), 10 ** 59)
            for one, other in itertools.product(vectors, repeat=2):
                behind, ahead = rest_behind(table, one, other), rest_ahead(table, one, other)
                self.assertEqual(second(table, one, behind), other)
                self.assertEqual(second(table, ahead, one), other)
                self.gives(behind, rest_behind, table, one, other)
                self.gives(ahead, rest_ahead, table, one, other)

    def test_beginnings_and_endings(self):
        """By going through all vectors without entries below 0 that can stand behind or ahead."""
        for table in SMALL + [FOUR]:
            vectors = drawn_vectors(15, table, 5, -1, 2) + drawn_vectors(16, table, 5, 0, 2)
            for one, other in itertools.product(vectors, repeat=2):
                many = sum(other) - sum(one)
                rests = self.all_of_sum(len(table), many)
                begins = any(second(table, one, rest) == other for rest in rests)
                ends = any(second(table, rest, one) == other for rest in rests)
                self.gives(begins, is_beginning, table, one, other)
                self.gives(ends, is_ending, table, one, other)

    def all_of_sum(self, size, many):
        if size == 0 or many < 0:
            return [()] if size == 0 and many == 0 else []
        cuts = itertools.combinations_with_replacement(range(size), many)
        return [tuple(cut.count(letter) for letter in range(size)) for cut in cuts]

    def test_common_ones(self):
        for table in QUIET:
            vectors = drawn_vectors(17, table, 3, -3, 3) + drawn_vectors(18, table, 1, 0, 2)
            for one, other in itertools.product(vectors, repeat=2):
                most = tuple(map(max, zip(one, other)))
                least = tuple(map(min, zip(one, other)))
                whole, first, last = least_common(table, one, other)
                self.assertEqual((whole, second(table, one, first), second(table, other, last)), (most, most, most))
                self.assertTrue(all(entry >= 0 for entry in first + last))
                self.gives((whole, first, last), least_common, table, one, other)
                whole, first, last = greatest_common(table, one, other)
                self.assertEqual((whole, second(table, whole, first), second(table, whole, last)), (least, one, other))
                self.assertTrue(all(entry >= 0 for entry in first + last))
                self.gives((whole, first, last), greatest_common, table, one, other)
        self.gives(((), (), ()), least_common, NONE, (), ())
        self.gives(((), (), ()), greatest_common, NONE, (), ())

    def test_most_digits(self):
        low = -MOST
        self.gives((MOST,), added, ONE, (MOST - 5,), (5,))
        self.refuses(TooMany, 60, added, ONE, (MOST - 5,), (6,))
        self.gives((low,), added, ONE, (low + 5,), (-5,))
        self.refuses(TooMany, 60, added, ONE, (low + 5,), (-6,))
        self.gives((0, low), taken_back, SWITCH, (MOST, 0))
        self.gives((10 ** 59 * 9,), power, ONE, (9,), 10 ** 59)
        self.refuses(TooMany, 60, power, ONE, (10,), 10 ** 59)
        self.gives((MOST,), power, ONE, (1,), MOST)
        self.gives((low,), power, ONE, (-1,), MOST)
        self.gives((low,), power, ONE, (1,), low)
        self.refuses(TooMany, 60, power, ONE, (2,), MOST)
        self.refuses(TooMany, 60, power, SWITCH, (0, -MOST), MOST)
        for call in (rest_behind, rest_ahead):
            self.gives((MOST,), call, ONE, (-9,), (MOST - 9,))
            self.refuses(TooMany, 60, call, ONE, (-9,), (MOST - 8,))
            self.gives((low,), call, ONE, (9,), (low + 9,))
            self.refuses(TooMany, 60, call, ONE, (9,), (low + 8,))
        self.assertIs(is_beginning(ONE, (low,), (MOST,)), True)
        self.assertIs(is_ending(ONE, (low,), (MOST,)), True)
        self.assertIs(is_ending(ONE, (MOST,), (low,)), False)
        self.gives(((MOST,), (MOST,), (0,)), least_common, ONE, (0,), (MOST,))
        self.refuses(TooMany, 60, least_common, ONE, (-1,), (MOST,))
        self.refuses(TooMany, 60, least_common, ONE, (MOST,), (-1,))
        self.gives(((low,), (0,), (MOST,)), greatest_common, ONE, (low,), (0,))
        self.refuses(TooMany, 60, greatest_common, ONE, (low,), (1,))
        self.refuses(TooMany, 60, greatest_common, ONE, (1,), (low,))
        self.refuses(InvalidVector, None, added, ONE, (MOST + 1,), (0,))
        self.refuses(InvalidVector, None, added, ONE, (0,), (low - 1,))
        self.refuses(InvalidNumber, MOST + 1, power, ONE, (0,), MOST + 1)
        self.refuses(Refused, ("quiet",), added, TURNS, (MOST, 0, 0), (MOST, 0, 0))

    def test_what_the_document_says_is_not_true(self):
        """[5.5]"""
        self.assertTrue(is_beginning(SWITCH, (1, 0), (2, 0)))
        self.assertFalse(is_ending(SWITCH, (1, 0), (2, 0)))
        self.assertNotEqual(added(SWITCH, (1, 0), (2, 0)), added(SWITCH, (2, 0), (1, 0)))
        self.assertNotEqual(vector_of(SWITCH, (0, 1)), vector_of(SWITCH, (1, 0)))

    def test_still_vectors_change_no_turning(self):
        """[5.1] and [6.1] for moved ones."""
        for table in MIDDLE:
            for vector in drawn_vectors(19, table, 3, -3, 3):
                for letter in range(len(table)):
                    many = 1
                    while turning(table, unit(table, letter, many)) != tuple(range(len(table))):
                        many += 1
                    other = tuple(a + b for a, b in zip(vector, unit(table, letter, -7 * many)))
                    self.assertEqual(turning(table, other), turning(table, vector))
                    moved = moved_by(unit(table, letter, many), turning(table, vector))
                    self.assertEqual(turning(table, moved), tuple(range(len(table))))


TABLES = (SWITCH, TURNS, NONE, None)
VECTORS = ((), (0, 1), (2, -1), (0, 1, 1), (MOST, MOST), (1, True), [0, 0])
SHORT = ((0, 1), (-1, 2, 0), (MOST, -MOST), (0, 10 ** 60))
NOT_BELOW = (InvalidVector, False, lambda value, told: is_vector(value, told) and all(entry >= 0 for entry in value))


class TestWrong(WrongCase):

    def check(self, call, parameters, thens, others, told):
        found = self.tries(call, parameters, thens, others, [(MOST, 0), (0, 1, -1), (-MOST, MOST), (5, 5, 5)])
        self.assertEqual(sorted(found), sorted(told), call)

    def test_one_argument(self):
        names = ["InvalidTable", "InvalidVector", "Refused", "none"]
        for call in (turning, taken_back):
            self.check(call, [TABLE, VECTOR], [THEN_QUIET], [TABLES, VECTORS], names)
        self.check(
            vector_of, [TABLE, WORD], [THEN_QUIET], [TABLES, ((), (0, 1), (2,))],
            ["InvalidTable", "InvalidWord", "Refused", "none"],
        )
        few = (TooMany, 200, lambda arguments: sum(arguments[1]) <= 200)
        self.check(word_of, [TABLE, NOT_BELOW], [THEN_QUIET, few], [TABLES, VECTORS], names + ["TooMany"])

    def test_two_vectors(self):
        names = ["InvalidTable", "InvalidVector", "Refused", "none"]
        for call in (is_beginning, is_ending):
            self.check(call, [TABLE, VECTOR, VECTOR], [THEN_QUIET], [TABLES, SHORT, SHORT], names)
        for call, reckoned in (
            (added, lambda arguments: [second(*arguments)]),
            (rest_behind, lambda arguments: [self.behind(*arguments)]),
            (rest_ahead, lambda arguments: [self.ahead(*arguments)]),
            (least_common, lambda arguments: self.common(arguments, max, 1)),
            (greatest_common, lambda arguments: self.common(arguments, min, -1)),
        ):
            thens = [THEN_QUIET, (TooMany, 60, self.short(reckoned))]
            self.check(call, [TABLE, VECTOR, VECTOR], thens, [TABLES, SHORT, SHORT], names + ["TooMany"])

    def short(self, reckoned):
        return lambda arguments: all(len(str(abs(entry))) <= 60 for vector in reckoned(arguments) for entry in vector)

    def back(self, table, vector):
        move = turning_by_word(table, vector)
        return tuple(-vector[move[x]] for x in range(len(table)))

    def behind(self, table, one, other):
        return second(table, self.back(table, one), other)

    def ahead(self, table, one, other):
        return second(table, other, self.back(table, one))

    def common(self, arguments, choose, sign):
        table, one, other = arguments
        whole = tuple(map(choose, zip(one, other)))
        if sign > 0:
            return [self.behind(table, one, whole), self.behind(table, other, whole)]
        return [self.behind(table, whole, one), self.behind(table, whole, other)]

    def test_powers(self):
        found = self.tries(
            power, [TABLE, VECTOR, INTEGER], [THEN_QUIET], [TABLES, ((0, 0), (0, 0, 0), (0,), ()), (0, 1, -1)],
        )
        self.assertEqual(sorted(found), ["InvalidNumber", "InvalidTable", "InvalidVector", "Refused", "none"])
        for value in some_values():
            self.refuses(InvalidVector, None, power, SWITCH, (0, 0, 0), value)


if __name__ == "__main__":
    unittest.main()
