"""Stage 16 [16.1] to [16.6]: weights by going through all threes, counts by going through all weights."""

import itertools
import math
import random
import unittest

from truenames.double.making import all_fair
from truenames.errors import InvalidNumber, InvalidOperation, InvalidStrings, InvalidTable, InvalidWeights, TooMany
from truenames.string import weights as module
from truenames.string.closed import turned_round
from truenames.string.weights import (
    diagonal_of, is_source_paper, is_weights_paper, of_letters, source_paper, string_sums, weight_counts,
    weights_paper,
)
from truenames.table.passing import Passing
from tests.helper import FOUR, SWITCH, TURNS, same, some_values
from tests.quiet import BENT_PAIR, FAIR, LAST, QUIET
from tests.strings_model import colours_by_rows, drawn_strings
from tests.test_shadows import ABOUT, EIGHT
from tests.wrong import TABLE, VALUE, WrongCase, below, row_of, whole

NONE, ONE, TWO = Passing.unmoved(0), Passing.unmoved(1), Passing.unmoved(2)
SMALL = [table for size in range(4) for table in all_fair(size)]
SHOWN = SMALL[::3] + FAIR[:3] + [FOUR, SWITCH * SWITCH, LAST, BENT_PAIR, SWITCH]
MODULI = (2, 3, 4, 6, 9, 12, 25, 30)


def drawn_weights(source, table, modulus):
    return tuple(tuple(source.randrange(modulus) for _ in range(len(table))) for _ in range(len(table)))


def sum_by_passing(table, weights, word, indices):
    """The sum of the weights of passings at some indices, one after the other."""
    total = 0
    for at in indices:
        x, y = word[at:at + 2]
        total += weights[x][y]
        word = word[:at] + table.rows[x][y] + word[at + 2:]
    return total


def broken_threes(table, modulus, weights):
    return [
        word for word in itertools.product(range(len(table)), repeat=3)
        if (sum_by_passing(table, weights, word, (0, 1, 0)) - sum_by_passing(table, weights, word, (1, 0, 1))) % modulus
    ]


def weights_of(table, modulus, numbers):
    told = []
    for x in range(len(table)):
        row = []
        for y in range(len(table)):
            ahead, behind = (x, y), table.rows[x][y]
            row.append((sum(numbers[z] for z in behind) - sum(numbers[z] for z in ahead)) % modulus)
        told.append(tuple(row))
    return tuple(told)


def all_numbers(table, modulus):
    return itertools.product(range(modulus), repeat=len(table))


def is_bar(table, modulus, weights, bar):
    """By the weights of all letters' numbers."""
    pairs = list(itertools.product(range(len(table)), repeat=2))
    for numbers in all_numbers(table, modulus):
        told = weights_of(table, modulus, numbers)
        if sum(told[x][y] * bar[x][y] for x, y in pairs) % modulus:
            return False
    return sum(weights[x][y] * bar[x][y] for x, y in pairs) % modulus != 0


def all_weights(table, modulus):
    size = len(table)
    for flat in itertools.product(range(modulus), repeat=size * size):
        yield tuple(flat[x * size:(x + 1) * size] for x in range(size))


def fair_sums(table, modulus):
    """Fair weights of larger tables: sums of those of letters and of a constant."""
    source = random.Random(161)
    for _ in range(4):
        numbers = [source.randrange(modulus) for _ in range(len(table))]
        more = source.randrange(modulus)
        yield tuple(tuple((entry + more) % modulus for entry in row) for row in weights_of(table, modulus, numbers))


class TestWeights(WrongCase):

    def test_constants(self):
        self.assertEqual((module.MAX_MODULUS, module.MAX_DIAGONAL), (30, 24))

    def test_papers(self):
        source = random.Random(16)
        words = set()
        for table in SHOWN:
            for modulus in MODULI[::2]:
                some = [drawn_weights(source, table, modulus)] + list(fair_sums(table, modulus))[:2]
                for weights in some:
                    broken = broken_threes(table, modulus, weights)
                    told = weights_paper(table, modulus, weights)
                    self.assertIn(told, [("three", *word) for word in broken] or [("fair",)])
                    self.gives(told, weights_paper, table, modulus, weights)
                    words.add(told[0])
                    for word in itertools.product(range(-1, len(table) + 1), repeat=3):
                        self.assertIs(is_weights_paper(table, modulus, weights, ("three", *word)), word in broken)
                    self.assertIs(is_weights_paper(table, modulus, weights, ("fair",)), not broken)
        self.assertEqual(words, {"fair", "three"})

    def test_all_weights_of_two_letters(self):
        for table in all_fair(2):
            for modulus in (2, 3, 4):
                for weights in all_weights(table, modulus):
                    broken = broken_threes(table, modulus, weights)
                    self.assertEqual(weights_paper(table, modulus, weights) == ("fair",), not broken)

    def test_near_papers(self):
        weights = ((0, 1), (0, 0))
        self.assertIs(is_weights_paper(SWITCH, 4, weights, ("three", 0, 0, 1)), True)
        for wrong in (
            ("three", False, 0, 1), ["three", 0, 0, 1], ("three", 0, 0), ("three", 0, 0, 1, 0), ("fair",), ("threes", 0, 0, 1),
            ("three", 0, 0, 2), ("three", -2, 0, 1), None,
        ):
            self.assertIs(is_weights_paper(SWITCH, 4, weights, wrong), False, wrong)
        for wrong in (["fair"], ("fair", 0), "fair", ("three", 0, 0, 0)):
            self.assertIs(is_weights_paper(SWITCH, 4, ((0, 0), (0, 0)), wrong), False, wrong)
        right = [("three", *word) for word in broken_threes(SWITCH, 4, weights)]
        for value in some_values():
            self.assertIs(is_weights_paper(SWITCH, 4, weights, value), any(same(value, paper) for paper in right))
            self.assertIs(is_weights_paper(SWITCH, 4, ((0, 0), (0, 0)), value), same(value, ("fair",)))

    def test_large_tables(self):
        for table in EIGHT + [ABOUT, QUIET[-1], FOUR * SWITCH]:
            for weights in fair_sums(table, 30):
                self.gives(("fair",), weights_paper, table, 30, weights)
                changed = ((weights[0][0], (weights[0][1] + 1) % 30) + weights[0][2:],) + weights[1:]
                told = weights_paper(table, 30, changed)
                self.assertEqual(told == ("fair",), not broken_threes(table, 30, changed))
                self.assertIs(is_weights_paper(table, 30, changed, told), True)


class TestSources(WrongCase):

    def test_weights_of_letters(self):
        for table in SHOWN:
            for modulus in (2, 5, 30):
                for numbers in list(all_numbers(table, 2))[:4] + [tuple(modulus - 1 - x % 2 for x in range(len(table)))]:
                    told = weights_of(table, modulus, numbers)
                    self.gives(told, of_letters, table, modulus, numbers)
                    self.assertEqual(broken_threes(table, modulus, told), [])

    def check_source(self, table, modulus, weights, come):
        paper = source_paper(table, modulus, weights)
        self.gives(paper, source_paper, table, modulus, weights)
        self.assertIs(is_source_paper(table, modulus, weights, paper), True)
        self.assertEqual((type(paper), len(paper)), (tuple, 2))
        if come:
            self.assertEqual(paper[0], "letters")
            self.assertTrue(row_of(paper[1], modulus))
            self.assertEqual(weights_of(table, modulus, paper[1]), weights)
        else:
            self.assertEqual(paper[0], "bar")
            self.assertTrue(len(paper[1]) == len(table) and all(row_of(row, modulus) and len(row) == len(table) for row in paper[1]))
            self.assertTrue(is_bar(table, modulus, weights, paper[1]))
        return paper[0]

    def test_all_weights_of_small_tables(self):
        for table in list(all_fair(2)) + [ONE, NONE]:
            for modulus in (2, 3, 4, 6):
                images = {weights_of(table, modulus, numbers) for numbers in all_numbers(table, modulus)}
                for index, weights in enumerate(all_weights(table, modulus)):
                    if index % 7 == 0 or weights in images:
                        self.check_source(table, modulus, weights, weights in images)

    def test_drawn_weights(self):
        source = random.Random(162)
        words = set()
        for table in SHOWN:
            for modulus in (2, 4, 6, 12):
                if modulus ** len(table) > 2000:
                    continue
                images = {weights_of(table, modulus, numbers) for numbers in all_numbers(table, modulus)}
                some = [drawn_weights(source, table, modulus), source.choice(sorted(images))] + list(fair_sums(table, modulus))[:1]
                for weights in some:
                    words.add(self.check_source(table, modulus, weights, weights in images))
        self.assertEqual(words, {"letters", "bar"})

    def test_large_tables(self):
        source = random.Random(163)
        words = []
        for table in EIGHT + [ABOUT, QUIET[-1], FOUR * SWITCH, Passing.unmoved(8)]:
            for modulus in (30, 16, 7):
                numbers = tuple(source.randrange(modulus) for _ in range(len(table)))
                weights = weights_of(table, modulus, numbers)
                paper = source_paper(table, modulus, weights)
                self.assertEqual((paper[0], weights_of(table, modulus, paper[1])), ("letters", weights))
                weights = drawn_weights(source, table, modulus)
                word, shown = source_paper(table, modulus, weights)
                words.append(word)
                pairs = list(itertools.product(range(len(table)), repeat=2))
                for letter in range(len(table)):
                    one = weights_of(table, modulus, [int(x == letter) for x in range(len(table))])
                    self.assertEqual(sum(one[x][y] * shown[x][y] for x, y in pairs) % modulus, 0)
                self.assertNotEqual(sum(weights[x][y] * shown[x][y] for x, y in pairs) % modulus, 0)
                self.assertIs(is_source_paper(table, modulus, weights, (word, shown)), True)
        self.assertEqual(set(words), {"bar"})

    def test_all_papers_of_a_table(self):
        """All numbers, and all bars, of some weights of two letters."""
        for table, weights in ((SWITCH, ((2, 0), (0, 2))), (SWITCH, ((1, 0), (0, 3))), (TWO, ((0, 1), (0, 0)))):
            for numbers in all_numbers(table, 4):
                right = weights_of(table, 4, numbers) == weights
                self.assertIs(is_source_paper(table, 4, weights, ("letters", numbers)), right)
            for bar in all_weights(table, 4):
                self.assertIs(is_source_paper(table, 4, weights, ("bar", bar)), is_bar(table, 4, weights, bar))

    def test_near_papers(self):
        weights = ((2, 0), (0, 2))
        self.assertIs(is_source_paper(SWITCH, 4, weights, ("letters", (0, 1))), True)
        for wrong in (
            ("letters", [0, 1]), ["letters", (0, 1)], ("letters", (False, 1)), ("letters", (0, 1, 0)), ("letters", (4, 1)),
            ("letters", (0,)), ("letters", (-4, 1)), ("letters",), ("letters", (0, 1), 0), ("letters", (0, 0)), ("bar", (0, 1)), None,
        ):
            self.assertIs(is_source_paper(SWITCH, 4, weights, wrong), False, wrong)
        weights = ((1, 0), (0, 3))
        self.assertIs(is_source_paper(SWITCH, 4, weights, ("bar", ((2, 0), (0, 0)))), True)
        for wrong in (
            ("bar", [(2, 0), (0, 0)]), ("bar", ([2, 0], (0, 0))), ["bar", ((2, 0), (0, 0))], ("bar", ((2, False), (0, 0))),
            ("bar", ((-2, 0), (0, 0))), ("bar", ((6, 0), (0, 0))), ("bar", ((2, 0), (0, 0), (0, 0))), ("bar", ((2, 0),)),
            ("bar",), ("bar", ((2, 0), (0, 0)), 0), ("bars", ((2, 0), (0, 0))), ("bar", ((0, 0), (0, 0))), ("bar", ((1, 0), (0, 0))),
        ):
            self.assertIs(is_source_paper(SWITCH, 4, weights, wrong), False, wrong)
        for value in some_values():
            self.assertIs(is_source_paper(SWITCH, 4, weights, value), False)
            self.assertIs(is_source_paper(NONE, 4, (), value), False)
        self.assertIs(is_source_paper(NONE, 4, (), ("letters", ())), True)
        self.assertIs(is_source_paper(NONE, 4, (), ("bar", ())), False)


class TestCounts(WrongCase):

    def test_all_weights_of_small_tables(self):
        for table, moduli in [(table, range(2, 7)) for table in all_fair(2)] + [(table, (2,)) for table in SMALL[7::12]]:
            for modulus in moduli:
                fair = sum(not broken_threes(table, modulus, weights) for weights in all_weights(table, modulus))
                letters = len({weights_of(table, modulus, numbers) for numbers in all_numbers(table, modulus)})
                self.gives((fair, letters), weight_counts, table, modulus)
                self.assertEqual(fair % letters, 0)

    def test_more_moduli(self):
        """Counts of a modulus are the products of those of its powers of primes."""
        for table in SMALL[::9] + [FOUR, LAST, TURNS * TWO, ABOUT]:
            told = {modulus: weight_counts(table, modulus) for modulus in (2, 3, 4, 5, 6, 8, 12, 20, 24, 30)}
            for modulus, parts in ((6, (2, 3)), (12, (4, 3)), (20, (4, 5)), (24, (8, 3)), (30, (2, 3, 5))):
                for place in (0, 1):
                    self.assertEqual(told[modulus][place], math.prod(told[part][place] for part in parts))

    def test_edges(self):
        for modulus in (2, 17, 30):
            self.gives((1, 1), weight_counts, NONE, modulus)
            self.gives((modulus, 1), weight_counts, ONE, modulus)
            self.gives((modulus ** 64, 1), weight_counts, Passing.unmoved(8), modulus)
        fair, letters = weight_counts(FOUR * SWITCH, 4)
        self.assertEqual(fair % letters, 0)

    def test_constants_and_sums_are_fair(self):
        """[16.4]"""
        for table in SHOWN:
            for weights in fair_sums(table, 6):
                self.assertEqual(weights_paper(table, 6, weights), ("fair",))


def changed_rows(source, rows):
    """Rows changed as [16.5] allows it: the diagonal stays."""
    rows = [list(row) for row in rows]
    for _ in range(30):
        if source.random() < 0.5:
            rows = [list(row) for row in zip(*rows)] if rows and rows[0] else rows
        one, other = source.randrange(len(rows)), source.randrange(len(rows))
        if one != other:
            many = source.randint(-2, 2)
            rows[one] = [a + many * b for a, b in zip(rows[one], rows[other])]
            if source.random() < 0.3:
                rows[one], rows[other] = rows[other], rows[one]
        elif source.random() < 0.5:
            rows[one] = [-a for a in rows[one]]
    return tuple(tuple(row) for row in rows)


def diagonal_by_parts(rows):
    """By the common divisors of all minors of each size."""
    width = len(rows[0]) if rows else 0
    divisors = [1]
    for size in range(1, min(len(rows), width) + 1):
        divisor = 0
        for lines in itertools.combinations(rows, size):
            for columns in itertools.combinations(range(width), size):
                divisor = math.gcd(divisor, minor_of([[line[at] for at in columns] for line in lines]))
        if divisor == 0:
            break
        divisors.append(divisor)
    return tuple(after // ahead for ahead, after in itertools.pairwise(divisors))


def minor_of(rows):
    if not rows:
        return 1
    return sum((-1) ** at * rows[0][at] * minor_of([row[:at] + row[at + 1:] for row in rows[1:]]) for at in range(len(rows)))


class TestDiagonals(WrongCase):

    def test_small_tables(self):
        source = random.Random(165)
        for high, wide in itertools.product(range(5), range(5)):
            for most in (1, 3, 12):
                rows = tuple(tuple(source.randint(-most, most) for _ in range(wide)) for _ in range(high))
                self.gives(diagonal_by_parts(rows), diagonal_of, rows)
                doubled = rows + rows if high < 3 else rows
                self.gives(diagonal_by_parts(doubled), diagonal_of, doubled)

    def test_all_tables_of_two_rows(self):
        for flat in itertools.product(range(-3, 4), repeat=4):
            rows = (flat[:2], flat[2:])
            self.assertEqual(diagonal_of(rows), diagonal_by_parts(rows))

    def test_known_diagonals(self):
        source = random.Random(166)
        for chain, high, wide in (
            ((1, 2, 2, 12), 5, 7), ((3, 6, 6), 8, 3), ((1,) * 20 + (5, 50), 24, 24), ((10 ** 59,), 3, 3),
            ((7, 7 * 10 ** 20, 7 * 10 ** 40), 4, 4), ((2, 4, 8, 16, 32, 64), 6, 24),
        ):
            rows = [[0] * wide for _ in range(high)]
            for place, entry in enumerate(chain):
                rows[place][place] = entry
            for _ in range(3):
                changed = changed_rows(source, rows)
                if all(abs(entry) < 10 ** 60 for row in changed for entry in row):
                    self.gives(chain, diagonal_of, changed)

    def test_long_integers(self):
        source = random.Random(167)
        rows = tuple(tuple(source.randrange(-10 ** 60 + 1, 10 ** 60) for _ in range(4)) for _ in range(4))
        told = diagonal_of(rows)
        self.assertEqual(told, diagonal_by_parts(rows))
        self.assertGreater(told[-1], 10 ** 200)
        rows = tuple(tuple(source.randrange(-10 ** 60 + 1, 10 ** 60) for _ in range(24)) for _ in range(24))
        told = diagonal_of(rows)
        self.assertEqual(len(told), 24)
        self.assertTrue(all(b % a == 0 for a, b in itertools.pairwise(told)))

    def test_edges(self):
        for rows in ((), ((),), ((),) * 24, ((0,),), ((0, 0), (0, 0)), ((0,) * 24,) * 24):
            self.gives((), diagonal_of, rows)
        self.gives((5,), diagonal_of, ((-5,),))
        self.gives((1,) * 24, diagonal_of, tuple(tuple(int(a == b) for a in range(24)) for b in range(24)))

    def test_solutions(self):
        """[16.5]: how many tuples make each row to 0."""
        source = random.Random(168)
        for modulus in (2, 4, 6):
            for _ in range(12):
                rows = tuple(tuple(source.randint(-4, 4) for _ in range(3)) for _ in range(source.randint(1, 4)))
                told = diagonal_of(rows)
                many = modulus ** (3 - len(told)) * math.prod(math.gcd(modulus, entry) for entry in told)
                found = [
                    numbers for numbers in itertools.product(range(modulus), repeat=3)
                    if all(sum(a * b for a, b in zip(row, numbers)) % modulus == 0 for row in rows)
                ]
                self.assertEqual(len(found), many)

    def test_wrong_tables(self):
        right = lambda value: (
            type(value) is tuple and len(value) <= 24
            and all(type(row) is tuple and len(row) <= 24 and all(whole(entry) for entry in row) for row in value)
            and len({len(row) for row in value}) <= 1
        )
        refused = 0
        more = [((1, 2), (3,)), ((1, 2), 3), ((1, 2), [1, 2]), ((1,) * 25,), ((1,),) * 25, ((1,) * 24,) * 24, ((10 ** 60,),), ((10 ** 60 - 1,),), ((True,),), (1, 2), [(1,)], ((),) * 25]
        for value in some_values() + more:
            if right(value):
                diagonal_of(value)
            else:
                self.refuses(InvalidOperation, None, diagonal_of, value)
                refused += 1
        self.assertGreater(refused, 60)


class TestSums(WrongCase):

    def told_sums(self, table, modulus, weights, strings, word):
        counts = {}
        for _, passings in colours_by_rows(table, strings, word):
            total = sum(sign * weights[x][y] for (x, y), sign in passings) % modulus
            counts[total] = counts.get(total, 0) + 1
        return dict(sorted(counts.items()))

    def test_sums(self):
        source = random.Random(169)
        for table in SHOWN:
            for strings in (1, 2, 3, 4):
                if len(table) ** strings > 300:
                    continue
                for word in drawn_strings(170 + strings, 3, strings, (0, 1, 2, 4, 7, 12)):
                    modulus = source.choice(MODULI)
                    weights = drawn_weights(source, table, modulus)
                    told = self.told_sums(table, modulus, weights, strings, word)
                    self.gives(told, string_sums, table, modulus, weights, strings, word)
                    self.assertEqual(list(string_sums(table, modulus, weights, strings, word)), sorted(told))

    def test_large_ones(self):
        source = random.Random(171)
        for table, strings in ((EIGHT[0], 4), (TURNS, 5), (FOUR * SWITCH, 4)):
            word = drawn_strings(172, 1, strings, (40,))[0]
            weights = drawn_weights(source, table, 30)
            told = self.told_sums(table, 30, weights, strings, word)
            self.assertEqual(string_sums(table, 30, weights, strings, word), told)

    def test_edges(self):
        self.gives({}, string_sums, NONE, 2, (), 3, (1, 2))
        self.gives({0: 3}, string_sums, TURNS, 2, ((1,) * 3,) * 3, 1, ())
        self.gives({0: 4096}, string_sums, EIGHT[0], 2, ((1,) * 8,) * 8, 4, ())
        self.gives({1: 1}, string_sums, ONE, 5, ((2,),), 2, (1, 1, 1))
        self.gives({3: 1}, string_sums, ONE, 5, ((2,),), 2, (-1,))

    def test_equal_braids(self):
        """[16.6]: with fair weights, equal braids and words turned round have equal sums."""
        for table in SMALL[::9] + FAIR[:2]:
            for weights in list(fair_sums(table, 6))[:2]:
                for word in drawn_strings(173, 2, 3, (4, 6)):
                    told = string_sums(table, 6, weights, 3, word)
                    self.assertEqual(string_sums(table, 6, weights, 3, word[:2] + (1, -1) + word[2:]), told)
                    for part in ((1, 2, 1), (2, 1, 2)):
                        self.assertEqual(
                            string_sums(table, 6, weights, 3, word + part), string_sums(table, 6, weights, 3, word + (1, 2, 1)),
                        )
                    for count in range(len(word) + 1):
                        self.assertEqual(string_sums(table, 6, weights, 3, turned_round(3, word, count)), told)

    def test_weights_of_letters_make_nothing(self):
        for table in SMALL[::5]:
            numbers = tuple(range(len(table)))
            for word in drawn_strings(174, 3, 3, (3, 5)):
                self.assertLessEqual(set(string_sums(table, 30, weights_of(table, 30, numbers), 3, word)), {0})


def are_weights(value, told):
    size, modulus = len(told[0]), told[1]
    return type(value) is tuple and len(value) == size and all(row_of(row, modulus) and len(row) == size for row in value)


MODULUS = (InvalidNumber, True, lambda value, told: below(value, 31) and value > 1)
WEIGHTS = (InvalidWeights, False, are_weights)
NUMBERS = (InvalidWeights, False, lambda value, told: row_of(value, told[1]) and len(value) == len(told[0]))
COUNT = (InvalidNumber, True, lambda value, told: below(value, 6) and value > 0)
WORD = (
    InvalidStrings, False,
    lambda value, told: type(value) is tuple and len(value) <= 40 and all(whole(entry) and 1 <= abs(entry) < told[3] for entry in value),
)
ROWS = (TooMany, 4096, lambda told: len(told[0]) ** told[3] <= 4096)
TABLES = (SWITCH, ONE, NONE, EIGHT[0], None)
NUMBERS_SHOWN = (2, 4, 30, 31, 1, True)
WEIGHTS_SHOWN = (((0, 1), (1, 0)), ((0,),), (), ((0,) * 8,) * 8, ((0, 1), (1, 4)), ((0, True), (0, 0)), [(0, 0), (0, 0)])
NAMES = ["InvalidNumber", "InvalidTable", "InvalidWeights", "none"]


class TestWrong(WrongCase):

    def test_weights(self):
        others = [TABLES, NUMBERS_SHOWN, WEIGHTS_SHOWN]
        for call in (weights_paper, source_paper):
            self.assertEqual(sorted(self.tries(call, [TABLE, MODULUS, WEIGHTS], [], others, WEIGHTS_SHOWN)), NAMES)
        others = [TABLES[:3], NUMBERS_SHOWN[1:4], WEIGHTS_SHOWN, (None, ("fair",), ("letters", (0, 0)))]
        for call in (is_weights_paper, is_source_paper):
            self.assertEqual(sorted(self.tries(call, [TABLE, MODULUS, WEIGHTS, VALUE], [], others, WEIGHTS_SHOWN)), NAMES)

    def test_numbers(self):
        others = [TABLES, NUMBERS_SHOWN, ((0, 1), (0,), (), (3, 4), (0, True), [0, 1])]
        self.assertEqual(sorted(self.tries(of_letters, [TABLE, MODULUS, NUMBERS], [], others)), NAMES)
        found = self.tries(weight_counts, [TABLE, MODULUS], [], [(SWITCH, ONE, None), NUMBERS_SHOWN])
        self.assertEqual(sorted(found), ["InvalidNumber", "InvalidTable", "none"])

    def test_sums(self):
        others = [TABLES[::3] + (None,), (4, 31), WEIGHTS_SHOWN[::3] + WEIGHTS_SHOWN[4:5], (2, 5, 6), ((), (1,), (2,), [1], (0,))]
        found = self.tries(string_sums, [TABLE, MODULUS, WEIGHTS, COUNT, WORD], [ROWS], others, WEIGHTS_SHOWN)
        self.assertEqual(sorted(found), sorted(NAMES + ["InvalidStrings", "TooMany"]))
        self.refuses(TooMany, 4096, string_sums, EIGHT[0], 4, ((0,) * 8,) * 8, 5, (4,))
        self.refuses(InvalidStrings, None, string_sums, EIGHT[0], 4, ((0,) * 8,) * 8, 5, (5,))

    def test_kinds_of_results(self):
        self.assertTrue(same(of_letters(SWITCH, 4, (0, 1)), ((2, 0), (0, 2))))
        self.assertIs(type(string_sums(SWITCH, 4, ((0, 0), (0, 0)), 1, ())), dict)
        self.refuses(InvalidTable, None, weight_counts, SWITCH.rows, 4)


if __name__ == "__main__":
    unittest.main()
