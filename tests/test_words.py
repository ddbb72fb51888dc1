"""Stage 4 [4.1] to [4.5]: words, reckoned by passing letter by letter and word by word."""

import itertools
import math
import random
import unittest

from truenames.errors import InvalidMove, InvalidNumber, InvalidOperation, InvalidWord, Refused, TooMany
from truenames.table.passing import Passing
from truenames.word import words
from truenames.word.words import (
    crossed, is_kin_paper, kin_count, kin_paper, kin_words, passed_at, steps_between, true_names, walked, word_of_names,
)
from tests.helper import FOUR, SWITCH, TURNS, some_values
from tests.quiet import (
    BLOCKS, FAIR, LARGE, MIDDLE, QUIET, SMALL, all_words, drawn_words, names_by_passing, pass_all, pass_at, steps_from,
)
from tests.wrong import QUIET as THEN_QUIET, TABLE, VALUE, WORD, WrongCase, below, move_of_size, row_of

NONE = Passing.unmoved(0)
STILL = Passing.unmoved(2)


def sorted_by_passing(table, word, ends, source):
    """The crossed word, by passing at any index at which a string ends behind the next one."""
    word, ends = tuple(word), list(ends)
    while True:
        places = [index for index in range(len(word) - 1) if ends[index] > ends[index + 1]]
        if not places:
            return word
        index = source.choice(places)
        word = pass_at(table, word, index)
        ends[index], ends[index + 1] = ends[index + 1], ends[index]


class TestPassing(WrongCase):

    def test_constants(self):
        self.assertEqual((words.MAX_WORD, words.MAX_LED, words.MAX_KIN), (200, 60, 5000))

    def test_passed_at_and_walked(self):
        source = random.Random(1)
        for table in QUIET + FAIR:
            for word in drawn_words(2, table, 6, (2, 3, 7, 30, 200)):
                for index in {0, len(word) // 2, len(word) - 2} & set(range(len(word) - 1)):
                    self.gives(pass_at(table, word, index), passed_at, table, word, index)
                if len(word) > 1:
                    indices = tuple(source.randrange(len(word) - 1) for _ in range(40))
                    self.gives(pass_all(table, word, indices), walked, table, word, indices)
                self.gives(word, walked, table, word, ())

    def test_unlike_words_become_unlike_words(self):
        for table in SMALL + FAIR[:3]:
            told = all_words(table, 3)
            for index in (0, 1):
                become = [passed_at(table, word, index) for word in told]
                self.assertEqual(sorted(become), told)
                if table.is_quiet:
                    self.assertEqual([passed_at(table, word, index) for word in become], told)

    def test_edges_of_walks(self):
        word = (0, 1) * 100
        self.gives(walked(SWITCH, word, (198,)), passed_at, SWITCH, word, 198)
        self.refuses(InvalidNumber, 199, passed_at, SWITCH, word, 199)
        self.gives(word, walked, SWITCH, word, (5,) * 20000)
        self.gives(word, walked, SWITCH, word, (198, 0) * 10000)
        self.refuses(InvalidOperation, None, walked, SWITCH, word, (5,) * 20001)
        self.refuses(InvalidOperation, None, walked, SWITCH, word, (5,) * 20002)
        self.refuses(InvalidOperation, None, walked, SWITCH, word, (199,))
        self.refuses(InvalidOperation, None, walked, SWITCH, word, (0, 1, -1))
        self.refuses(InvalidOperation, None, walked, SWITCH, word, (0, True))
        for short in ((), (1,)):
            self.gives(short, walked, SWITCH, short, ())
            for index in (-1, 0, 1):
                self.refuses(InvalidNumber, index, passed_at, SWITCH, short, index)
                self.refuses(InvalidOperation, None, walked, SWITCH, short, (index,))
        self.refuses(InvalidWord, None, passed_at, SWITCH, (0,) * 201, 0)
        self.gives((), walked, NONE, (), ())
        self.refuses(InvalidWord, None, walked, NONE, (0,), ())

    def test_crossed(self):
        source = random.Random(3)
        for table in QUIET + FAIR:
            for word in drawn_words(4, table, 5, (0, 1, 2, 3, 4, 12)):
                ends = source.sample(range(len(word)), len(word))
                told = sorted_by_passing(table, word, ends, source)
                self.assertEqual(told, sorted_by_passing(table, word, ends, source))
                self.gives(told, crossed, table, word, tuple(ends))
        for table in (SWITCH, TURNS):
            for word in all_words(table, 3):
                for ends in itertools.permutations(range(3)):
                    self.gives(sorted_by_passing(table, word, ends, source), crossed, table, word, ends)

    def test_long_crossed_words(self):
        turned = tuple(range(199, -1, -1))
        for table in (FOUR, TURNS, STILL):
            for word in drawn_words(5, table, 2, (200,)):
                every = [index for stop in range(199, 0, -1) for index in range(stop)]
                self.assertEqual(len(every), 19900)
                self.gives(walked(table, word, tuple(every)), crossed, table, word, turned)
                self.gives(word, crossed, table, word, tuple(range(200)))
        self.assertEqual(crossed(STILL, (0, 1, 1), (2, 0, 1)), (1, 1, 0))

    def test_moves_of_another_size_are_refused(self):
        for move in ((0, 1), (0, 1, 2, 3), (0, 1, 1), (0, 1, 3), (0, True, 2), [0, 1, 2], (), None, (2, 1, -3)):
            self.refuses(InvalidMove, None, crossed, SWITCH, (0, 0, 1), move)
        self.refuses(InvalidMove, None, crossed, SWITCH, (), (0,))


class TestNames(WrongCase):

    def test_true_names(self):
        for table in QUIET:
            for word in drawn_words(6, table, 6, (0, 1, 2, 3, 5, 9, 20)):
                names = names_by_passing(table, word)
                self.gives(names, true_names, table, word)
                self.gives(word, word_of_names, table, names)
        for table in MIDDLE + LARGE:
            word = drawn_words(7, table, 1, (200,))[0]
            self.gives(names_by_passing(table, word), true_names, table, word)
            self.gives(word, word_of_names, table, names_by_passing(table, word))

    def test_each_tuple_is_that_of_one_word(self):
        for table in SMALL + [FOUR, BLOCKS]:
            told = all_words(table, 3)
            self.assertEqual(sorted(true_names(table, word) for word in told), told)
            self.assertEqual([true_names(table, word_of_names(table, names)) for names in told], told)

    def test_passing_exchanges_two_names(self):
        for table in SMALL + MIDDLE:
            for word in drawn_words(8, table, 8, (2, 3, 6)):
                names = true_names(table, word)
                for index in range(len(word) - 1):
                    there = passed_at(table, word, index)
                    told = names[:index] + (names[index + 1], names[index]) + names[index + 2:]
                    self.assertEqual(true_names(table, there), told)
                    self.assertEqual(there == word, names[index] == names[index + 1])

    def test_edges(self):
        for call in (true_names, word_of_names):
            self.gives((), call, SWITCH, ())
            self.gives((), call, NONE, ())
            self.gives((1,), call, SWITCH, (1,))
            self.assertEqual(len(call(FOUR, (3,) * 200)), 200)
            for wrong in ((3,) * 201, (4,), (-1,), (True,), [0], (0, None), "01", 7, None, (0, (1,))):
                self.refuses(InvalidWord, None, call, FOUR, wrong)
            self.refuses(InvalidWord, None, call, TURNS, (3,))
            self.refuses(Refused, ("quiet",), call, TURNS, ())


class TestKin(WrongCase):

    def test_kin_words_by_going_from_word_to_word(self):
        for table in SMALL + [FOUR, BLOCKS]:
            for word in drawn_words(9, table, 4, (0, 1, 2, 3, 4, 5, 6)):
                steps = steps_from(table, word)
                self.gives(len(steps), kin_count, table, word)
                self.assertEqual(list(kin_words(table, word)), sorted(steps))
                self.assertEqual(list(kin_words(table, word)), sorted(steps))
        for table in LARGE:
            word = drawn_words(10, table, 1, (5,))[0]
            self.assertEqual(list(kin_words(table, word)), sorted(steps_from(table, word)))

    def test_papers_of_all_pairs_of_short_words(self):
        for table in [SWITCH] + SMALL[4:9] + [FOUR]:
            told = all_words(table, 0) + all_words(table, 1) + all_words(table, 3)
            for one in told[::3 if len(table) == 4 else 1]:
                steps = steps_from(table, one)
                for other in told:
                    self.check_pair(table, one, other, steps)

    def check_pair(self, table, one, other, steps):
        paper = kin_paper(table, one, other)
        self.assertEqual(steps_between(table, one, other), steps.get(other))
        self.assertIs(is_kin_paper(table, one, other, paper), True)
        counts = [names_by_passing(table, word).count for word in (one, other)]
        unequal = [letter for letter in range(len(table)) if counts[0](letter) != counts[1](letter)]
        for letter in range(-1, len(table) + 1):
            self.assertIs(is_kin_paper(table, one, other, ("name", letter)), letter in unequal)
        for indices in ((), (0,), (1,), (0, 1), (0, 0), (1, 0, 1)):
            right = all(index < len(one) - 1 for index in indices) and pass_all(table, one, indices) == other
            self.assertIs(is_kin_paper(table, one, other, ("passings", indices)), right)
        if other in steps:
            self.assertEqual(paper[0], "passings")
            self.assertEqual(pass_all(table, one, paper[1]), other)
        else:
            self.assertEqual(paper[0], "name")
            self.assertIn(paper[1], unequal)

    def test_papers_of_longer_words(self):
        source = random.Random(11)
        for table in MIDDLE + LARGE:
            for one in drawn_words(12, table, 3, (7, 20, 60)):
                other = pass_all(table, one, [source.randrange(len(one) - 1) for _ in range(300)])
                word, indices = kin_paper(table, one, other)
                self.gives((word, indices), kin_paper, table, one, other)
                self.assertEqual(word, "passings")
                self.assertLessEqual(len(indices), 2000)
                self.assertEqual(pass_all(table, one, indices), other)
                self.assertTrue(is_kin_paper(table, one, other, (word, indices)))
                self.assertFalse(is_kin_paper(table, one, other[1:], (word, indices)))
                fewest = steps_between(table, one, other)
                self.assertLessEqual(fewest, len(indices))
                self.assertEqual(fewest, self.fewest(table, one, other))
                self.gives(fewest, steps_between, table, other, one)

    def fewest(self, table, one, other):
        """The pairs of unequal names that stand the other way round, told by letter and count."""
        names, others = names_by_passing(table, one), names_by_passing(table, other)
        places = {}
        for place, name in enumerate(others):
            places[(name, others[:place].count(name))] = place
        goals = [places[(name, names[:place].count(name))] for place, name in enumerate(names)]
        return sum(a > b for a, b in itertools.combinations(goals, 2))

    def test_near_papers(self):
        one, other = (0, 1, 2), (1, 2, 2)
        for right in (("passings", (0,)), ("passings", (0, 1, 1)), ("passings", (1, 1, 0))):
            self.assertIs(is_kin_paper(FOUR, one, other, right), True)
        for wrong in (
            ("passings", [0]), ["passings", (0,)], ("passings", (False,)), ("passings", (0, True, 1)), ("passings", 0),
            ("passings", (0,), ()), ("passings",), ("passing", (0,)), ("name", 0), ("name", (0,)), ("passings", (2,)),
            ("passings", (-2,)), ("passings", (0, None)), (0, "passings"), ("passings", (1,)), ("passings", "0"),
        ):
            self.assertIs(is_kin_paper(FOUR, one, other, wrong), False, wrong)
        self.assertIs(is_kin_paper(SWITCH, (0, 1), (0, 0), ("name", 1)), True)
        self.assertIs(is_kin_paper(SWITCH, (0, 1), (0, 0), ("name", 0)), True)
        for wrong in (("name", True), ("name", False), ("name", 2), ("name", -1), ("name", None), ("name", (1,)), ["name", 1], ("", 1)):
            self.assertIs(is_kin_paper(SWITCH, (0, 1), (0, 0), wrong), False, wrong)
        for value in some_values():
            self.assertIs(is_kin_paper(FOUR, one, other, value), False)
            self.assertIs(is_kin_paper(FOUR, one, other, ("passings", value)), self.leads(value, one, other))
        self.assertIs(is_kin_paper(NONE, (), (), ("passings", ())), True)
        self.assertIs(is_kin_paper(NONE, (), (), ("name", 0)), False)
        self.gives(("passings", ()), kin_paper, NONE, (), ())

    def leads(self, value, one, other):
        return row_of(value, 2) and pass_all(FOUR, one, value) == other

    def test_edges_of_papers(self):
        word, turned = (0,) * 30 + (1,) * 30, (1,) * 30 + (0,) * 30
        paper = kin_paper(STILL, word, turned)
        self.assertEqual(len(paper[1]), 900)
        most = Passing.unmoved(8)
        names = tuple(place % 8 for place in range(60))
        self.assertTrue(is_kin_paper(most, names, names[::-1], kin_paper(most, names, names[::-1])))
        for many, right in ((2000, True), (1998, True), (1999, False), (2001, False), (2002, False)):
            self.assertIs(is_kin_paper(FOUR, (0, 1, 2), (0, 1, 2), ("passings", (0,) * many)), right, many)
        for many, right in ((1999, True), (2000, True), (2001, False)):
            self.assertIs(is_kin_paper(SWITCH, (0, 1, 0), (0, 1, 0), ("passings", (0,) * many)), right, many)
        longest = (0,) * 60
        self.gives(("passings", ()), kin_paper, STILL, longest, longest)
        self.assertIs(is_kin_paper(STILL, longest, longest, ("passings", (58,))), True)
        for one, other in (((0,) * 61, longest), (longest, (0,) * 61), ((), (0,) * 200)):
            self.refuses(TooMany, 60, kin_paper, STILL, one, other)
            self.refuses(TooMany, 60, is_kin_paper, STILL, one, other, None)
            self.refuses(Refused, ("quiet",), kin_paper, TURNS, one, other)
            self.refuses(InvalidWord, None, kin_paper, TURNS, one, (9,))
            self.gives(None, steps_between, STILL, one, other)
        self.gives(10000, steps_between, STILL, (0,) * 100 + (1,) * 100, (1,) * 100 + (0,) * 100)
        self.gives(("name", 0), kin_paper, STILL, (), longest)

    def test_counts_of_long_words(self):
        self.gives(math.comb(200, 100), kin_count, STILL, (0, 1) * 100)
        self.gives(math.factorial(200) // math.factorial(25) ** 8, kin_count, Passing.unmoved(8), tuple(range(8)) * 25)
        self.gives(1, kin_count, STILL, (1,) * 200)
        self.gives(1, kin_count, NONE, ())
        for table in LARGE:
            for word in drawn_words(13, table, 2, (30, 200)):
                names = names_by_passing(table, word)
                told = 1
                left = len(word)
                for letter in range(len(table)):
                    told *= math.comb(left, names.count(letter))
                    left -= names.count(letter)
                self.gives(told, kin_count, table, word)

    def test_edges_of_kin_words(self):
        self.assertEqual(len(list(kin_words(STILL, (0,) * 98 + (1, 1)))), 4950)
        told = list(kin_words(STILL, (1, 1) + (0,) * 98))
        self.assertEqual(told, sorted(told))
        many = kin_words(STILL, (0,) * 99 + (1,) * 2)
        with self.assertRaises(TooMany) as caught:
            next(many)
        self.assertEqual(caught.exception.limit, 5000)
        self.refuses(TooMany, 5000, first_kin_word, Passing.unmoved(7), tuple(range(7)))
        self.assertEqual(list(kin_words(NONE, ())), [()])
        self.assertEqual(list(kin_words(STILL, (1,) * 200)), [(1,) * 200])
        self.assertEqual(next(kin_words(SWITCH, (0, 0, 1))), (0, 0, 1))

    def test_what_the_document_says_is_not_true(self):
        """[4.5]"""
        self.assertEqual(kin_paper(SWITCH, (0, 1), (1, 0))[0], "name")
        self.assertEqual(passed_at(SWITCH, (0, 0), 0), (1, 1))
        self.assertNotEqual(walked(FOUR, (0, 1, 2), (0, 1)), walked(FOUR, (0, 1, 2), (1, 0)))
        self.assertEqual(true_names(SWITCH, (0, 1)), (0, 0))


INDEX = (InvalidNumber, True, lambda value, arguments: below(value, len(arguments[1]) - 1))
INDICES = (
    InvalidOperation, False,
    lambda value, arguments: type(value) is tuple and len(value) <= 20000 and row_of(value, len(arguments[1]) - 1),
)
MOVE = (InvalidMove, False, lambda value, arguments: move_of_size(value, len(arguments[1])))
NOT_LONG = (TooMany, 60, lambda arguments: max(len(arguments[1]), len(arguments[2])) <= 60)
NOT_MANY = (TooMany, 5000, lambda arguments: kin_count(arguments[0], arguments[1]) <= 5000)
TABLES = (SWITCH, TURNS, NONE, None)
WORDS = ((), (0, 1, 1), (0, 1) * 40, (0, True))


def first_kin_word(*arguments):
    return next(kin_words(*arguments))


class TestWrong(WrongCase):

    def check(self, call, parameters, thens, others, least):
        told = self.tries(call, parameters, thens, others, [(0,) * 201, (0,) * 200, (0, 1) * 30])
        self.assertEqual(sorted(told), sorted(least), call)

    def test_passing(self):
        self.check(
            passed_at, [TABLE, WORD, INDEX], [], [TABLES, WORDS, (0, 1, -1, True)],
            ["InvalidTable", "InvalidWord", "InvalidNumber", "none"],
        )
        self.check(
            walked, [TABLE, WORD, INDICES], [], [TABLES, WORDS, ((), (0, 1), (0, 2), [0])],
            ["InvalidTable", "InvalidWord", "InvalidOperation", "none"],
        )
        self.check(
            crossed, [TABLE, WORD, MOVE], [], [TABLES, WORDS, ((), (0, 2, 1), (0, 1), None)],
            ["InvalidTable", "InvalidWord", "InvalidMove", "none"],
        )

    def test_names(self):
        for call in (true_names, word_of_names, kin_count):
            self.check(
                call, [TABLE, WORD], [THEN_QUIET], [TABLES, WORDS], ["InvalidTable", "InvalidWord", "Refused", "none"],
            )
        self.check(
            first_kin_word, [TABLE, WORD], [THEN_QUIET, NOT_MANY], [TABLES, WORDS],
            ["InvalidTable", "InvalidWord", "Refused", "TooMany", "none"],
        )

    def test_kin(self):
        names = ["InvalidTable", "InvalidWord", "Refused", "none"]
        self.check(steps_between, [TABLE, WORD, WORD], [THEN_QUIET], [TABLES, WORDS, WORDS], names)
        self.check(kin_paper, [TABLE, WORD, WORD], [THEN_QUIET, NOT_LONG], [TABLES, WORDS, WORDS], names + ["TooMany"])
        self.check(
            is_kin_paper, [TABLE, WORD, WORD, VALUE], [THEN_QUIET, NOT_LONG], [TABLES, WORDS, WORDS, ((), None)],
            names + ["TooMany"],
        )

    def test_generators_wait_with_their_errors(self):
        for arguments in ((None, ()), (SWITCH, (2,)), (TURNS, (0,)), (STILL, (0, 1) * 30)):
            waiting = kin_words(*arguments)
            with self.assertRaises(Exception):
                next(waiting)


if __name__ == "__main__":
    unittest.main()
