"""Stage 3 [3.1] to [3.5]: tables, papers about rows and dots, reckoned again."""

import itertools
import unittest

from truenames.errors import InvalidMove, InvalidNumber, InvalidTable, Refused, TooMany
from truenames.table import passing
from truenames.table.passing import (
    Passing, dots_of, dots_paper, fair_paper, form_of, is_dots_paper, is_fair_paper, least_form, likenesses_of,
)
from tests.helper import BENT, FOUR, SIX, SWITCH, TURNS, Case, all_moves, some_values
from tests.quiet import quiet_of_size


def passed_at(rows, word, index):
    """The word behind passing at an index."""
    return word[:index] + rows[word[index]][word[index + 1]] + word[index + 2:]


def passed_at_all(rows, word, indices):
    for index in indices:
        word = passed_at(rows, word, index)
    return word


def right_papers(rows):
    """All right papers about rows, in the order of the document."""
    letters = range(len(rows))
    papers = [
        ("left", x, y, z) for x in letters for y in letters for z in range(y + 1, len(rows))
        if rows[x][y][0] == rows[x][z][0]
    ]
    papers += [
        ("right", y, x, z) for y in letters for x in letters for z in range(x + 1, len(rows))
        if rows[x][y][1] == rows[z][y][1]
    ]
    papers += [
        ("three", *word) for word in itertools.product(letters, repeat=3)
        if passed_at_all(rows, word, (0, 1, 0)) != passed_at_all(rows, word, (1, 0, 1))
    ]
    return papers or [("fair",)]


def right_dots_papers(dots):
    letters = range(len(dots))
    papers = [
        ("row", x, y, z) for x in letters for y in letters for z in range(y + 1, len(dots)) if dots[x][y] == dots[x][z]
    ]
    papers += [
        ("three", x, y, z) for x, y, z in itertools.product(letters, repeat=3)
        if dots[dots[x][y]][dots[x][z]] != dots[dots[y][x]][dots[y][z]]
    ]
    return papers or [("dots",)]


def all_papers(words, right, size):
    threes = list(itertools.product(range(size), repeat=3))
    return [(right,)] + [(word, *told) for word in words for told in threes]


def pairs(size):
    return list(itertools.product(range(size), repeat=2))


def cut(flat, size):
    """A flat row of entries as rows."""
    return tuple(tuple(flat[size * x:size * x + size]) for x in range(size))


def pair_tables():
    """All tables of one to three letters, and one of four, that two moves make."""
    found = []
    for size in range(4):
        for one, other in itertools.product(all_moves(size), repeat=2):
            if all(one[other[x]] == other[one[x]] for x in range(size)):
                found.append(Passing.of_pair(one, other))
    found.append(Passing.of_pair((1, 2, 3, 0), (2, 3, 0, 1)))
    return found


def shown_tables():
    tables = pair_tables() + quiet_of_size(2) + quiet_of_size(3)
    tables += [SWITCH, FOUR, TURNS, Passing.unmoved(0), Passing.unmoved(1), Passing.unmoved(4), Passing.unmoved(8)]
    tables += [SWITCH * SWITCH, SWITCH * FOUR, Passing.unmoved(2) * TURNS, TURNS * SWITCH, dihedral(5)]
    return tables


def dihedral(size):
    """x and y become 2 x - y and x modulo the size: fair, and not quiet from 3 on."""
    return Passing(cut([((2 * x - y) % size, x) for x, y in pairs(size)], size))


class TestFairPapers(Case):

    def check_rows(self, rows):
        papers = right_papers(rows)
        self.gives(papers[0], fair_paper, rows)
        for paper in all_papers(("left", "right", "three"), "fair", len(rows)):
            self.assertIs(is_fair_paper(rows, paper), paper in papers, (rows, paper))
        if papers == [("fair",)]:
            self.assertEqual(Passing(rows).rows, rows)
        else:
            self.refuses(Refused, papers[0], Passing, rows)

    def test_constants(self):
        self.assertEqual((passing.MAX_LETTERS, passing.MAX_LIKENED, passing.MAX_FORMED), (8, 6, 5))

    def test_all_rows_of_up_to_two_letters(self):
        self.check_rows(())
        self.check_rows((((0, 0),),))
        fair = 0
        for flat in itertools.product(pairs(2), repeat=4):
            self.check_rows(cut(flat, 2))
            fair += right_papers(cut(flat, 2)) == [("fair",)]
        self.assertEqual(fair, 4)

    def test_tables_with_one_changed_pair(self):
        for table in (TURNS, Passing.unmoved(3), Passing.of_pair((1, 2, 0), (2, 0, 1))):
            for at, pair in itertools.product(range(9), pairs(3)):
                flat = [told for row in table.rows for told in row]
                flat[at] = pair
                self.check_rows(cut(flat, 3))
        for at in range(16):
            flat = [told for row in FOUR.rows for told in row]
            flat[at] = flat[at][::-1]
            self.check_rows(cut(flat, 4))

    def test_rows_with_moves_that_are_not_fair(self):
        """[0.18]: L and R are all moves, and three letters break the table."""
        self.assertEqual(right_papers(BENT)[0][0], "three")
        for one, other in itertools.product(all_moves(3), repeat=2):
            self.check_rows(cut([(one[y], other[x]) for x, y in pairs(3)], 3))
        for left in itertools.islice(itertools.product(all_moves(3), repeat=3), 0, None, 5):
            self.check_rows(cut([(left[x][y], x) for x, y in pairs(3)], 3))

    def test_rules_that_one_side_alone_breaks(self):
        right_only = cut([(y, y) for x, y in pairs(3)], 3)
        left_only = cut([(x, x) for x, y in pairs(3)], 3)
        self.gives(("right", 0, 0, 1), fair_paper, right_only)
        self.gives(("left", 0, 0, 1), fair_paper, left_only)
        self.check_rows(right_only)
        self.check_rows(left_only)
        self.gives(True, is_fair_paper, right_only, ("right", 2, 1, 2))
        self.gives(False, is_fair_paper, right_only, ("right", 2, 2, 1))
        self.gives(False, is_fair_paper, right_only, ("right", 2, 1, 1))
        self.gives(False, is_fair_paper, left_only, ("left", 2, 2, 1))

    def test_large_rows(self):
        flat = [(y, x) for x, y in pairs(8)]
        self.gives(("fair",), fair_paper, cut(flat, 8))
        flat[63] = (6, 7)
        self.gives(("left", 7, 6, 7), fair_paper, cut(flat, 8))
        flat[63] = (7, 6)
        self.gives(("right", 7, 6, 7), fair_paper, cut(flat, 8))
        self.gives(True, is_fair_paper, cut(flat, 8), ("right", 7, 6, 7))

    def test_near_papers(self):
        self.gives(True, is_fair_paper, BENT, ("three", 1, 0, 0))
        near = [
            ["three", 1, 0, 0], ("three", True, 0, 0), ("three", 1, False, 0), ("three", 1, 0), ("three", 1, 0, 0, 0),
            ("three", (1, 0, 0)), ("three", 3, 0, 0), ("three", -1, 0, 0), ("three", "1", 0, 0), ("Three", 1, 0, 0),
            ("three",), "three", ("left", 0, 0, 1), ("right", 0, 0, 1), ("dots",), ("three", 1, 0, 10 ** 99),
            (None, 1, 0, 0), (("three",), 1, 0, 0), (SWITCH, 1, 0, 0), ("three", 1, 0, None), ("three", 1, 0, [0]),
        ]
        for value in some_values() + near:
            self.gives(False, is_fair_paper, BENT, value)
        for value in some_values() + [["fair"], ("fair", 0), ("fair", 0, 0, 0), "fair", (True,), (SWITCH,)]:
            for rows in (SWITCH.rows, ()):
                self.gives(type(value) is tuple and value == ("fair",), is_fair_paper, rows, value)
        lefts = (((0, 0), (0, 1)), ((1, 0), (1, 1)))
        self.gives(True, is_fair_paper, lefts, ("left", 0, 0, 1))
        for value in (("left", 0, False, 1), ("left", 0, 0, True), ["left", 0, 0, 1], ("left", 0, 1, 0), ("left", 0, 0, 2)):
            self.gives(False, is_fair_paper, lefts, value)

    def test_wrong_rows(self):
        near = [
            ((),), (((0, 0),), ((0, 0),)), (((0, 1),),), ([(0, 0)],), (([0, 0],),), [((0, 0),)], (((0, False),),),
            (((0, 0, 0),),), (((0,),),), (((0, "0"),),), (((0, -1),),), (((0, None),),), ((0,),), (((0, 10 ** 99),),),
            (((1, 1), (0, 1)), ((1, 0),)), (((1, 1), (0, 1)), ((1, 0), (0, 2))), cut([(y, x) for x, y in pairs(9)], 9),
            (((1, 1), (0, 1)), ((1, 0), (0, 0), (0, 0))), (((1, 1), (0, True)), ((1, 0), (0, 0))), (SWITCH,), ("00",),
        ]
        for rows in near + [None, True, 0, "", [], {}, "text", (0,), (None,), SIX, SWITCH]:
            for call in (Passing, fair_paper):
                self.refuses(InvalidTable, None, call, rows)
            self.refuses(InvalidTable, None, is_fair_paper, rows, ("fair",))
            self.refuses(InvalidTable, None, is_fair_paper, rows, None)


class TestDotsPapers(Case):

    def check_dots(self, dots):
        papers = right_dots_papers(dots)
        self.gives(papers[0], dots_paper, dots)
        for paper in all_papers(("row", "three"), "dots", len(dots)):
            self.assertIs(is_dots_paper(dots, paper), paper in papers, (dots, paper))
        if papers != [("dots",)]:
            self.refuses(Refused, papers[0], Passing.of_dots, dots)
            return
        table = Passing.of_dots(dots)
        self.assertEqual(right_papers(table.rows), [("fair",)])
        self.assertTrue(table.is_quiet)
        self.gives(dots, dots_of, table)
        self.assertEqual(sorted(dots[x][x] for x in range(len(dots))), list(range(len(dots))))

    def test_all_dots_of_up_to_two_letters(self):
        for size in range(3):
            for flat in itertools.product(range(size), repeat=size * size):
                self.check_dots(cut(flat, size))

    def test_dots_of_three_and_four_letters(self):
        for rows in itertools.product(all_moves(3), repeat=3):
            self.check_dots(rows)
        for flat in itertools.islice(itertools.product(range(3), repeat=9), 0, None, 307):
            self.check_dots(cut(flat, 3))
        dots = dots_of(FOUR)
        self.check_dots(dots)
        for at, letter in itertools.product(range(16), range(4)):
            flat = [told for row in dots for told in row]
            flat[at] = letter
            self.check_dots(cut(flat, 4))

    def test_large_dots(self):
        self.check_dots((tuple(range(8)),) * 8)
        self.gives(("row", 7, 6, 7), dots_paper, (tuple(range(8)),) * 7 + ((0, 1, 2, 3, 4, 5, 6, 6),))

    def test_near_papers(self):
        dots = ((0, 1), (1, 0))
        self.gives(True, is_dots_paper, dots, ("three", 0, 1, 0))
        near = [
            ["three", 0, 1, 0], ("three", 0, True, 0), ("three", False, 1, 0), ("three", 0, 1), ("three", 0, 1, 0, 0),
            ("three", 0, 3, 0), ("three", 0, -1, 0), ("three", 0, "1", 0), ("Three", 0, 1, 0), ("three",), "three",
            ("row", 0, 0, 1), ("dots",), ("fair",), ("left", 0, 1, 0), ("three", 0, 10 ** 99, 0), (None, 0, 1, 0),
        ]
        for value in some_values() + near:
            self.gives(False, is_dots_paper, dots, value)
        for value in some_values() + [["dots"], ("dots", 0), ("dots", 0, 0, 0), "dots", (SWITCH,)]:
            self.gives(type(value) is tuple and value == ("dots",), is_dots_paper, ((1, 0), (1, 0)), value)
        rows = ((0, 0), (1, 0))
        self.gives(True, is_dots_paper, rows, ("row", 0, 0, 1))
        for value in (("row", 0, False, 1), ["row", 0, 0, 1], ("row", 0, 1, 0), ("row", 0, 0, 0), ("row", 1, 0, 1)):
            self.gives(False, is_dots_paper, rows, value)

    def test_wrong_dots(self):
        near = [
            ((),), ((0, 1),), ((0,), (0,)), ([0],), [(0,)], ((False,),), (("0",),), ((1,),), ((-1,),), ((0, 1), (0,)),
            ((0, 1), (0, 1, 0)), ((0, 1), (0, 2)), ((0, 1), (0, True)), (tuple(range(9)),) * 9, ((None,),), ((10 ** 99,),),
        ]
        for dots in near + [None, True, 0, "", [], {}, "text", (0,), (None,), SIX, SWITCH]:
            for call in (dots_paper, Passing.of_dots):
                self.refuses(InvalidTable, None, call, dots)
            self.refuses(InvalidTable, None, is_dots_paper, dots, ("dots",))
            self.refuses(InvalidTable, None, is_dots_paper, dots, None)


class TestMakingTables(Case):

    def test_unmoved(self):
        for size in range(9):
            told = Passing.unmoved(size)
            self.assertIsInstance(told, Passing)
            self.assertEqual(told.rows, cut([(y, x) for x, y in pairs(size)], size))
        for value in some_values() + [9, -1]:
            if not (type(value) is int and 0 <= value <= 8):
                self.refuses(InvalidNumber, value, Passing.unmoved, value)

    def test_of_left(self):
        for size in range(4):
            made = 0
            for left in itertools.product(all_moves(size), repeat=size):
                dots = tuple(tuple(move.index(y) for y in range(size)) for move in left)
                papers = right_dots_papers(dots)
                if papers != [("dots",)]:
                    self.refuses(Refused, papers[0], Passing.of_left, left)
                    continue
                made += 1
                table = Passing.of_left(left)
                self.assertEqual(table.left, left)
                self.assertTrue(table.is_quiet)
                self.assertEqual(right_papers(table.rows), [("fair",)])
                self.assertEqual(table, Passing.of_dots(dots))
            self.assertEqual(made, (1, 1, 2, 12)[size])
        self.assertEqual(Passing.of_left(FOUR.left), FOUR)
        self.assertEqual(Passing.of_left((tuple(range(8)),) * 8), Passing.unmoved(8))

    def test_wrong_left(self):
        near = [
            ((),), ((0, 1),), ((0,), (0,)), ([0],), [(0,)], ((False,),), ((1,),), ((0, 1), (0,)), ((0, 1), (0, 1, 2)),
            ((0, 1), (0, 0)), ((0, 1), (0, True)), (tuple(range(9)),) * 9, ((0, 1), None), ((0, 1), [1, 0]),
        ]
        for left in near + [None, True, 0, "", [], {}, "text", (0,), (None,), SIX, SWITCH]:
            self.refuses(InvalidMove, None, Passing.of_left, left)

    def test_of_pair(self):
        for size in range(5):
            moves = all_moves(size) if size < 4 else all_moves(size)[::3]
            for one, other in itertools.product(moves, repeat=2):
                unlike = [x for x in range(size) if one[other[x]] != other[one[x]]]
                if unlike:
                    self.refuses(Refused, ("order", unlike[0]), Passing.of_pair, one, other)
                    continue
                table = Passing.of_pair(one, other)
                self.assertEqual(table.rows, cut([(one[y], other[x]) for x, y in pairs(size)], size))
                self.assertEqual(right_papers(table.rows), [("fair",)])
        self.assertEqual(len(Passing.of_pair(tuple(range(8)), (1, 2, 3, 4, 5, 6, 7, 0))), 8)
        self.refuses(Refused, ("order", 2), Passing.of_pair, (0, 1, 3, 4, 2), (0, 1, 3, 2, 4))

    def test_wrong_pairs(self):
        nine = tuple(range(9))
        for value in some_values() + [nine, (0, 1, 2, True), [1, 0, 2], (3, 0, 1)]:
            right = type(value) is tuple and len(value) <= 8 and all(type(x) is int for x in value)
            right = right and sorted(value) == list(range(len(value)))
            if not right:
                for other in ((1, 2, 0), None, value):
                    self.refuses(InvalidMove, None, Passing.of_pair, value, other)
            if not (right and len(value) == 3):
                self.refuses(InvalidMove, None, Passing.of_pair, (1, 2, 0), value)
        self.refuses(InvalidMove, None, Passing.of_pair, nine, nine)


class TestTables(Case):

    SHOWN = shown_tables()

    def test_properties(self):
        for table in self.SHOWN:
            size = len(table.rows)
            self.assertEqual((table.size, len(table)), (size, size))
            self.assertEqual(right_papers(table.rows), [("fair",)])
            self.assertEqual(table.left, tuple(tuple(table.rows[x][y][0] for y in range(size)) for x in range(size)))
            self.assertEqual(table.right, tuple(tuple(table.rows[x][y][1] for x in range(size)) for y in range(size)))
            quiet = all(table.rows[table.rows[x][y][0]][table.rows[x][y][1]] == (x, y) for x, y in pairs(size))
            self.assertIs(table.is_quiet, quiet)
            self.assertEqual(str(table), f"{'quiet' if quiet else 'fair'} table of {size} letters")
        self.assertEqual([str(SWITCH), str(TURNS), str(Passing.unmoved(0)), str(Passing.unmoved(1))], [
            "quiet table of 2 letters", "fair table of 3 letters", "quiet table of 0 letters", "quiet table of 1 letters",
        ])

    def test_quiet_tables_by_the_undone_left(self):
        """[3.3]: v is where the undone L of u leads x, exactly in quiet tables."""
        for table in self.SHOWN:
            told = all(
                table.left[table.rows[x][y][0]].index(x) == table.rows[x][y][1] for x, y in pairs(len(table))
            )
            self.assertIs(table.is_quiet, told)

    def test_objects_keep_their_properties(self):
        for name in ("rows", "size", "left", "right", "is_quiet"):
            with self.assertRaises(AttributeError):
                setattr(Passing.unmoved(2), name, 1)

    def test_passed(self):
        for table in self.SHOWN:
            for x, y in pairs(len(table)):
                self.assertEqual(table.passed(x, y), table.rows[x][y])
            size = len(table)
            for value in some_values() + [size, -size - 1]:
                if not (type(value) is int and 0 <= value < size):
                    self.refuses(InvalidNumber, value, table.passed, value, "second")
                    self.refuses(InvalidNumber, value, table.passed, value, 0)
                    if size:
                        self.refuses(InvalidNumber, value, table.passed, size - 1, value)

    def test_passed_back(self):
        for table in self.SHOWN:
            back = table.passed_back()
            self.assertIsInstance(back, Passing)
            self.assertEqual(len(back), len(table))
            for x, y in pairs(len(table)):
                self.assertEqual(back.passed(*table.passed(x, y)), (x, y))
            self.assertEqual(back == table, table.is_quiet)
            self.assertEqual(table.passed_back(), back)

    def test_mirrored(self):
        for table in self.SHOWN:
            mirrored = table.mirrored()
            self.assertIsInstance(mirrored, Passing)
            for x, y in pairs(len(table)):
                self.assertEqual(mirrored.passed(x, y), table.passed(y, x)[::-1])
            self.assertEqual(mirrored.mirrored(), table)

    def test_renamed(self):
        for table in self.SHOWN:
            for order in all_moves(len(table))[::max(1, len(table) ** 5 // 10)]:
                renamed = table.renamed(order)
                self.assertIsInstance(renamed, Passing)
                for i, j in pairs(len(table)):
                    u, v = renamed.passed(i, j)
                    self.assertEqual((order[u], order[v]), table.passed(order[i], order[j]))
        for value in some_values() + [(0, 1, 2, 3), (0, 2, 1), [0, 1], (0, True)]:
            if value != (0, 1) and value != (1, 0) or any(type(x) is bool for x in value):
                self.refuses(InvalidMove, None, SWITCH.renamed, value)
        self.assertEqual(Passing.unmoved(0).renamed(()), Passing.unmoved(0))

    def test_products(self):
        for one, other in itertools.product(self.SHOWN, repeat=2):
            if len(one) * len(other) > 8:
                self.refuses(TooMany, 8, lambda: one * other)
                continue
            made = one * other
            size = len(other)
            self.assertIsInstance(made, Passing)
            self.assertEqual(len(made), len(one) * size)
            for x, a in pairs(len(one)):
                u, v = one.passed(x, a)
                for y, b in pairs(size):
                    p, q = other.passed(y, b)
                    self.assertEqual(made.rows[x * size + y][a * size + b], (u * size + p, v * size + q))
        self.assertEqual(Passing.unmoved(0) * Passing.unmoved(8), Passing.unmoved(0))
        self.refuses(TooMany, 8, lambda: TURNS * TURNS)

    def test_equality(self):
        for one, other in itertools.product(self.SHOWN, repeat=2):
            self.assertIs(one == other, one.rows == other.rows)
            self.assertIs(one != other, one.rows != other.rows)
        for value in some_values() + [SWITCH.rows, 2]:
            if not isinstance(value, Passing):
                self.assertIs(SWITCH == value, False)
                self.assertIs(value == SWITCH, False)
                self.assertIs(SWITCH != value, True)
                self.assertIs(Passing.unmoved(0) == value, False)
        self.assertIn(Passing.of_left(((1, 0), (1, 0))), [None, 2, SWITCH])
        self.assertNotIn(SWITCH, [None, 2, TURNS])

    def test_what_raises_a_type_error(self):
        calls = [
            lambda: iter(SWITCH), lambda: list(SWITCH), lambda: 0 in SWITCH, lambda: SWITCH[0], lambda: reversed(SWITCH),
            lambda: SWITCH + SWITCH, lambda: SWITCH < SWITCH, lambda: SWITCH >= SWITCH, lambda: ~SWITCH, lambda: -SWITCH,
            lambda: SWITCH - 1, lambda: SWITCH ** 2, lambda: SWITCH // SWITCH, lambda: SWITCH | SWITCH, lambda: SWITCH(),
        ]
        calls += [lambda value=value: SWITCH * value for value in some_values() if not isinstance(value, Passing)]
        calls += [lambda value=value: value * SWITCH for value in some_values() if not isinstance(value, Passing)]
        for call in calls:
            with self.assertRaises(TypeError):
                call()


class TestFormsAndLikenesses(Case):

    SHOWN = shown_tables()

    def test_dots_of(self):
        for table in self.SHOWN:
            if not table.is_quiet:
                self.refuses(Refused, ("quiet",), dots_of, table)
                continue
            told = dots_of(table)
            for x, y in pairs(len(table)):
                self.assertEqual(table.left[x][told[x][y]], y)
            self.assertEqual(right_dots_papers(told), [("dots",)])
            self.gives(told, dots_of, table)

    def test_likenesses_of(self):
        for table in self.SHOWN:
            if len(table) > 6:
                self.refuses(TooMany, 6, lambda: next(likenesses_of(table)))
                continue
            told = [
                m for m in all_moves(len(table))
                if all((m[table.rows[x][y][0]], m[table.rows[x][y][1]]) == table.rows[m[x]][m[y]]
                       for x, y in pairs(len(table)))
            ]
            self.assertEqual(list(likenesses_of(table)), told)
            self.assertEqual(list(likenesses_of(table)), told)
        self.assertEqual(list(likenesses_of(Passing.unmoved(0))), [()])
        self.assertEqual(list(likenesses_of(Passing.unmoved(6))), all_moves(6))
        self.assertEqual(len(list(likenesses_of(dihedral(5)))), 20)
        told = likenesses_of(TURNS)
        self.assertIs(iter(told), told)
        self.assertEqual(next(told), (0, 1, 2))
        for size in (7, 8):
            self.refuses(TooMany, 6, lambda: next(likenesses_of(Passing.unmoved(size))))

    def test_form_of(self):
        for table in self.SHOWN:
            told = str(len(table)) + " " + "".join(
                str(table.rows[x][y][0]) + str(table.rows[x][y][1]) for x, y in pairs(len(table))
            )
            self.gives(told, form_of, table)
        self.gives("0 ", form_of, Passing.unmoved(0))
        self.gives("1 00", form_of, Passing.unmoved(1))
        self.gives("2 11011000", form_of, SWITCH)
        self.assertEqual(len(form_of(Passing.unmoved(8))), 130)

    def test_least_form(self):
        for table in self.SHOWN:
            if len(table) > 5:
                self.refuses(TooMany, 5, least_form, table)
                continue
            forms = [form_of(table.renamed(order)) for order in all_moves(len(table))]
            self.gives(sorted(forms)[0], least_form, table)
            for order in all_moves(len(table))[:7]:
                self.gives(sorted(forms)[0], least_form, table.renamed(order))
        self.gives("0 ", least_form, Passing.unmoved(0))
        for size in (6, 7, 8):
            self.refuses(TooMany, 5, least_form, Passing.unmoved(size))

    def test_kinds_by_least_forms(self):
        self.assertEqual(len({least_form(table) for table in quiet_of_size(2)}), 2)
        self.assertEqual(len({least_form(table) for table in quiet_of_size(3)}), 5)

    def test_wrong_tables(self):
        for value in some_values() + [SIX, SWITCH.rows]:
            if not isinstance(value, Passing):
                for call in (dots_of, form_of, least_form, lambda told: next(likenesses_of(told))):
                    self.refuses(InvalidTable, None, call, value)
                waiting = likenesses_of(value)
                with self.assertRaises(InvalidTable):
                    next(waiting)


if __name__ == "__main__":
    unittest.main()
