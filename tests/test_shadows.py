"""Stage 14 [14.1] to [14.6]: shadows by moves L and R, row maps letter by letter."""

import itertools
import unittest

from truenames.double.doubles import Double, table_of
from truenames.double.making import all_fair
from truenames.errors import InvalidNumber, InvalidTable, InvalidWord, Refused
from truenames.group.groups import Group
from truenames.table.passing import Passing
from truenames.table.shadows import (
    calm_paper, is_calm_paper, is_shadow_paper, row_back, row_map, shadow_of, shadow_paper, shadow_passed,
    table_of_shadow,
)
from truenames.word.words import passed_at, true_names
from tests.helper import FOUR, SIX, SWITCH, TURNS, all_moves, same, some_values
from tests.quiet import BENT_PAIR, FAIR, QUIET, all_words, drawn_words, names_by_passing, pass_at
from tests.wrong import TABLE, VALUE, WORD, WrongCase, below, row_of

NONE, ONE = Passing.unmoved(0), Passing.unmoved(1)
ABOUT = table_of(Double.about(SIX))
SMALL = [table for size in range(4) for table in all_fair(size)]
EIGHT = [table_of(Double.about(Group.quaternions())), table_of(Double.both(Group.polygon(4)))]
SHOWN = SMALL + FAIR + QUIET[20::3] + [ABOUT, ABOUT.passed_back(), FOUR * SWITCH] + EIGHT
AROUND = ((0, 2, 1), (2, 1, 0), (1, 0, 2))
BENT = ((1, 0), (1, 0))


def shadow_papers(rows):
    """All right papers about rows, in the order of the document."""
    letters = range(len(rows))
    papers = [
        ("row", x, y, z) for x, y, z in itertools.product(letters, repeat=3) if y < z and rows[x][y] == rows[x][z]
    ]
    papers += [
        ("three", x, y, z) for x, y, z in itertools.product(letters, repeat=3)
        if rows[x][rows[y][z]] != rows[rows[x][y]][rows[x][z]]
    ]
    return papers or [("shadow",)]


def shadow_by_moves(table):
    """[14.2], step by step, with the moves L and R."""
    rows = []
    for x in range(len(table)):
        row = []
        for y in range(len(table)):
            z = table.left[y].index(x)
            v = table.right[z][y]
            row.append(table.left[x][v])
        rows.append(tuple(row))
    return tuple(rows)


def shadow_by_words(table):
    """By passing words of two letters, and looking at what becomes of their names."""
    told = {}
    for word in all_words(table, 2):
        one, other = names_by_passing(table, word)
        further, last = names_by_passing(table, pass_at(table, word, 0))
        assert further == other and told.get((other, one), last) == last
        told[other, one] = last
    return tuple(tuple(told[x, y] for y in range(len(table))) for x in range(len(table)))


def all_shadows(size):
    return [rows for rows in itertools.product(all_moves(size), repeat=size) if shadow_papers(rows) == [("shadow",)]]


SHADOWS = [rows for size in range(4) for rows in all_shadows(size)] + [shadow_by_moves(table) for table in SHOWN]


class TestPapers(WrongCase):

    def check_rows(self, rows):
        papers = shadow_papers(rows)
        self.gives(papers[0], shadow_paper, rows)
        letters = range(-1, len(rows) + 1)
        for word in ("row", "three"):
            for told in itertools.product(letters, repeat=3):
                self.assertIs(is_shadow_paper(rows, (word, *told)), (word, *told) in papers)
        self.assertIs(is_shadow_paper(rows, ("shadow",)), papers == [("shadow",)])
        if papers == [("shadow",)]:
            table_of_shadow(rows)
        else:
            for call in (table_of_shadow, calm_paper):
                self.refuses(Refused, papers[0], call, rows)
            self.refuses(Refused, papers[0], is_calm_paper, rows, ("calm",))
            self.refuses(Refused, papers[0], shadow_passed, rows, (0, 0), 0)
        return papers[0][0]

    def test_all_rows_of_few_letters(self):
        words = []
        for size in range(3):
            words += [self.check_rows(rows) for rows in itertools.product(itertools.product(range(size), repeat=size), repeat=size)]
        words += [self.check_rows(rows) for rows in itertools.product(all_moves(3), repeat=3)]
        rows = list(itertools.product(itertools.product(range(3), repeat=3), repeat=3))
        words += [self.check_rows(told) for told in rows[::53]]
        self.assertEqual(set(words), {"row", "three", "shadow"})

    def test_rows_of_more_letters(self):
        for rows in [shadow_by_moves(table) for table in (ABOUT, EIGHT[0], FOUR, FAIR[3])]:
            self.assertEqual(shadow_paper(rows), ("shadow",))
            for at in range(len(rows)):
                changed = rows[:at] + (rows[at][1:] + rows[at][:1],) + rows[at + 1:]
                self.assertEqual(shadow_paper(changed), shadow_papers(changed)[0])
                changed = rows[:at] + ((rows[at][1],) + rows[at][1:],) + rows[at + 1:]
                self.assertEqual(shadow_paper(changed), shadow_papers(changed)[0])

    def test_near_papers(self):
        rows = ((0, 1), (1, 0))
        self.assertIs(is_shadow_paper(rows, ("three", 1, 0, 1)), True)
        for wrong in (
            ("three", True, 0, 1), ["three", 1, 0, 1], ("three", 1, 0), ("three", 1, 0, 1, 0), ("threes", 1, 0, 1), ("shadow",),
            ("three", -1, 0, 1), ("three", 1, 0, 2), ("row", 0, 0, 1), ("three", (1, 0, 1)), None, 3,
        ):
            self.assertIs(is_shadow_paper(rows, wrong), False, wrong)
        rows = ((0, 0), (0, 1))
        self.assertIs(is_shadow_paper(rows, ("row", 0, 0, 1)), True)
        for wrong in (("row", 0, 1, 0), ("row", False, 0, 1), ("row", 0, 0, True), ("row", 1, 0, 1), ("row", 0, 0, 0)):
            self.assertIs(is_shadow_paper(rows, wrong), False, wrong)
        for value in some_values():
            self.assertIs(is_shadow_paper(AROUND, value), False)
            self.assertIs(is_shadow_paper((), value), False)
        for wrong in (["shadow"], ("shadow", 0), "shadow", ("calm",)):
            self.assertIs(is_shadow_paper(AROUND, wrong), False)
        self.gives(("shadow",), shadow_paper, ())


class TestShadows(WrongCase):

    def test_shadows_of_tables(self):
        for table in SHOWN:
            rows = shadow_by_moves(table)
            self.gives(rows, shadow_of, table)
            self.assertTrue(same(shadow_of(table), rows))
            self.assertEqual(shadow_by_words(table), rows)
            self.assertEqual(shadow_papers(rows), [("shadow",)])
            idle = tuple(range(len(table)))
            self.assertEqual(table.is_quiet, all(row == idle for row in rows))

    def test_tables_of_shadows(self):
        for rows in SHADOWS:
            table = table_of_shadow(rows)
            self.gives(table, table_of_shadow, rows)
            for x, y in itertools.product(range(len(rows)), repeat=2):
                self.assertEqual(table.passed(x, y), (y, rows[y][x]))
            self.assertEqual(shadow_of(table), rows)
            for word in drawn_words(14, table, 4, (0, 1, 5, 9)):
                self.assertEqual(row_map(table, word), word)

    def test_edges(self):
        self.gives((), shadow_of, NONE)
        self.gives(((0,),), shadow_of, ONE)
        self.gives(NONE, table_of_shadow, ())
        self.gives(ONE, table_of_shadow, ((0,),))
        eight = tuple(range(8))
        self.gives(Passing.unmoved(8), table_of_shadow, (eight,) * 8)
        self.gives((eight,) * 8, shadow_of, FOUR * SWITCH)

    def test_what_the_document_says_is_not_true(self):
        """[14.6]"""
        self.assertEqual(shadow_of(FOUR), shadow_of(Passing.unmoved(4)))
        self.assertEqual(calm_paper(shadow_of(SWITCH)), ("calm",))
        self.assertEqual(SWITCH.passed(0, 0), (1, 1))


class TestRowMaps(WrongCase):

    def test_row_maps(self):
        for table in SHOWN:
            words = drawn_words(141, table, 8, (0, 1, 2, 3, 7, 20))
            for word in words:
                names = names_by_passing(table, word)
                self.gives(names, row_map, table, word)
                self.gives(word, row_back, table, names)
                if table.is_quiet:
                    self.assertEqual(true_names(table, word), names)

    def test_unlike_words_have_unlike_names(self):
        """[14.3]"""
        for table in SMALL[::5] + FAIR[:2] + [FOUR]:
            for length in range(4):
                words = all_words(table, length)
                self.assertEqual(sorted(row_map(table, word) for word in words), words)
                self.assertEqual([row_map(table, row_back(table, names)) for names in words], words)

    def test_names_pass_as_shadow_names(self):
        for table in SHOWN:
            rows = shadow_by_moves(table)
            for word in drawn_words(142, table, 5, (2, 3, 6)):
                if len(word) == 0:
                    continue
                names = row_map(table, word)
                for index in range(len(word) - 1):
                    a, b = names[index:index + 2]
                    told = names[:index] + (b, rows[b][a]) + names[index + 2:]
                    self.gives(told, shadow_passed, rows, names, index)
                    self.assertEqual(row_map(table, passed_at(table, word, index)), told)

    def test_long_words(self):
        word = (0, 1, 2, 2, 1) * 40
        self.assertEqual(row_back(TURNS, row_map(TURNS, word)), word)
        self.refuses(InvalidWord, None, row_map, TURNS, word + (0,))
        self.refuses(InvalidWord, None, row_back, TURNS, word + (0,))
        self.refuses(InvalidWord, None, shadow_passed, AROUND, word + (0,), 0)
        self.assertEqual(shadow_passed(AROUND, word, 198)[:198], word[:198])
        self.gives((), row_map, NONE, ())
        self.gives((), row_back, NONE, ())


class TestCalm(WrongCase):

    def test_calm_papers(self):
        words = set()
        for rows in SHADOWS:
            bent = [x for x in range(len(rows)) if rows[x][x] != x]
            told = calm_paper(rows)
            self.gives(told, calm_paper, rows)
            words.add(told[0])
            self.assertIs(is_calm_paper(rows, told), True)
            for x in range(-1, len(rows) + 1):
                self.assertIs(is_calm_paper(rows, ("letter", x)), x in bent)
            self.assertIs(is_calm_paper(rows, ("calm",)), not bent)
            for value in some_values():
                self.assertIs(is_calm_paper(rows, value), False)
        self.assertEqual(words, {"calm", "letter"})

    def test_near_papers(self):
        self.assertIs(is_calm_paper(BENT, ("letter", 1)), True)
        for wrong in (("letter", True), ["letter", 1], ("letter",), ("letter", 1, 1), ("letter", 2), ("calm",), ("letters", 1), ("letter", (1,))):
            self.assertIs(is_calm_paper(BENT, wrong), False, wrong)
        for wrong in (["calm"], ("calm", 0), "calm", ("letter", 0), ("shadow",)):
            self.assertIs(is_calm_paper(AROUND, wrong), False, wrong)
        self.assertIs(is_calm_paper((), ("calm",)), True)

    def test_moves_of_letters_that_are_not_calm(self):
        """[14.5]: c of (x > y) is x > (c of y), and (c of x) > y is x > y."""
        for rows in SHADOWS:
            c = [rows[x][x] for x in range(len(rows))]
            self.assertEqual(sorted(c), list(range(len(rows))))
            for x, y in itertools.product(range(len(rows)), repeat=2):
                self.assertEqual((c[rows[x][y]], rows[c[x]][y]), (rows[x][c[y]], rows[x][y]))


def is_rows(value, arguments):
    return type(value) is tuple and len(value) <= 8 and all(row_of(row, len(value)) and len(row) == len(value) for row in value)


ROWS = (InvalidTable, False, is_rows)
NAMES = (InvalidWord, False, lambda value, told: row_of(value, len(told[0])) and len(value) <= 200)
INDEX = (InvalidNumber, True, lambda value, told: below(value, len(told[1]) - 1))
MORE = [(), AROUND, BENT, ((0, 0), (0, 1)), ((0, 1), (1, 0)), ((0, 1), (1, True)), [(0, 1), (0, 1)], ((0,) * 9,) * 9]


class TestWrong(WrongCase):

    def test_rows(self):
        for call in (shadow_paper,):
            self.assertEqual(sorted(self.tries(call, [ROWS], [], [()], MORE)), ["InvalidTable", "none"])
        found = self.tries(is_shadow_paper, [ROWS, VALUE], [], [tuple(MORE), (None, ("shadow",))], MORE)
        self.assertEqual(sorted(found), ["InvalidTable", "none"])
        for rows in some_values() + MORE:
            if not is_rows(rows, ()):
                for call in (table_of_shadow, calm_paper):
                    self.refuses(InvalidTable, None, call, rows)
                self.refuses(InvalidTable, None, is_calm_paper, rows, ("calm",))
            elif shadow_papers(rows) != [("shadow",)]:
                for call in (table_of_shadow, calm_paper):
                    self.refuses(Refused, shadow_papers(rows)[0], call, rows)
                self.refuses(Refused, shadow_papers(rows)[0], is_calm_paper, rows, None)

    def test_tables_and_words(self):
        self.assertEqual(sorted(self.tries(shadow_of, [TABLE], [], [()])), ["InvalidTable", "none"])
        words = ((), (0, 1), [0], (0, 3), (0, True), (2,))
        for call in (row_map, row_back):
            found = self.tries(call, [TABLE, WORD], [], [(TURNS, SWITCH, NONE, BENT_PAIR, None), words])
            self.assertEqual(sorted(found), ["InvalidTable", "InvalidWord", "none"])

    def test_names_that_pass(self):
        shadow = (Refused, lambda told: shadow_papers(told[0])[0], lambda told: shadow_papers(told[0]) == [("shadow",)])
        rows = (AROUND, BENT, ((0, 1), (1, 0)), (), None)
        names = ((), (0,), (0, 1), (0, 1, 2), [0, 1], (0, True), (0, 1, 1, 0))
        found = self.tries(shadow_passed, [ROWS, NAMES, INDEX], [shadow], [rows, names, (0, 1, -1, True)])
        self.assertEqual(sorted(found), ["InvalidNumber", "InvalidTable", "InvalidWord", "Refused", "none"])


if __name__ == "__main__":
    unittest.main()
