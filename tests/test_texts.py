"""Stage 19 [19.1] to [19.4]: texts written number by number, and read line by line by patterns."""

import itertools
import random
import re
import unittest

from truenames.desk.desk import Desk
from truenames.double.doubles import Double
from truenames.double.listing import doubles_on
from truenames.double.making import all_fair
from truenames.errors import InvalidOperation, ParseError, Refused
from truenames.group.groups import Group, all_groups
from truenames.table.passing import Passing
from truenames.text import strings
from truenames.text.strings import read_value, write_value
from tests.helper import BENT, FOUR, KEPT, RING, SIX, SWITCH, TURNS, Case, large_groups, renamed_group, same, small_groups, some_values
from tests.quiet import FAIR, QUIET
from tests.shown_doubles import LARGE_DOUBLES, SMALL_DOUBLES, rule_papers
from tests.test_groups import right_papers as group_papers
from tests.test_passing import right_papers as table_papers
from tests.wrong import row_of

NONE, ONE = Passing.unmoved(0), Passing.unmoved(1)
TABLES = [table for size in range(4) for table in all_fair(size)] + QUIET[20:] + FAIR
GROUPS = small_groups() + large_groups()
DOUBLES = SMALL_DOUBLES + LARGE_DOUBLES
DOUBLES += [double for size in (4, 6, 8) for plus in all_groups(size) for double in doubles_on(plus)]
WORDS = [(), (0,), (23,), (1, 0), (0, 1, 2, 23, 10, 9), tuple(range(24)), (0,) * 200, tuple(range(23, -1, -1)) * 8]
CHARACTERS = [chr(code) for code in range(32, 127)] + ["\n"]
FEW_CHARACTERS = list("01239 ,\nwtgd-+_.")
KINDS = ("word", "table", "group", "double")


def plain(value):
    """A value as its kind and plain tuples."""
    if isinstance(value, Passing):
        return ("table", value.rows)
    if isinstance(value, Group):
        return ("group", value.rows)
    if isinstance(value, Double):
        return ("double", (value.plus.rows, value.circle.rows))
    return ("word", value)


def text_of(value):
    """The text of a value, joined of its numbers one by one."""
    kind, rows = plain(value)
    if kind == "word":
        return kind + "".join(f" {letter}" for letter in rows)
    text = f"{kind} {len(value)}"
    for part in rows if kind == "double" else (rows,):
        for row in part:
            text += "\n"
            for index, entry in enumerate(row):
                text += " " if index else ""
                text += "%d,%d" % entry if kind == "table" else "%d" % entry
    return text


def first_line(line):
    """The kind that a first line tells, its size or letters, and how many lines must follow; or None."""
    number = "(?:[0-9]|1[0-9]|2[0-3])"
    if re.fullmatch(f"word(?: {number}){{0,200}}", line):
        return "word", tuple(int(letter) for letter in line.split()[1:]), 0
    told = re.fullmatch("table ([0-8])", line)
    if told:
        return "table", int(told[1]), int(told[1])
    told = re.fullmatch("(group|double) ([1-9]|1[0-9]|2[0-4])", line)
    if told:
        return told[1], int(told[2]), int(told[2]) * (2 if told[1] == "double" else 1)
    return None


def read_by_patterns(text):
    """What a text tells: a kind with plain tuples, the index of a wrong line, or a reason to refuse it."""
    lines = text.split("\n")
    told = first_line(lines[0])
    if told is None:
        return ("spot", 0)
    kind, size, many = told
    if kind != "word":
        number = "(?:" + "|".join(str(entry) for entry in range(size)) + ")"
        entry = f"{number},{number}" if kind == "table" else number
        pattern = " ".join([entry] * size)
    for index in range(1, many + 1):
        if index >= len(lines) or re.fullmatch(pattern, lines[index]) is None:
            return ("spot", index)
    if len(lines) > many + 1:
        return ("spot", many + 1)
    if kind == "word":
        return (kind, size)
    if kind == "table":
        rows = tuple(tuple(tuple(map(int, pair.split(","))) for pair in line.split(" ")) for line in lines[1:])
        return judged("table", rows, table_papers(rows)[0])
    rows = tuple(tuple(map(int, line.split(" "))) for line in lines[1:])
    if kind == "group":
        return judged("group", rows, group_papers(rows)[0])
    plus, circle = rows[:size], rows[size:]
    for word, part in (("plus", plus), ("circle", circle)):
        if group_papers(part)[0] != ("group",):
            return ("refused", (word, group_papers(part)[0]))
    return judged("double", (plus, circle), rule_papers(Group(plus), Group(circle))[0])


def judged(kind, rows, paper):
    right = {"table": ("fair",), "group": ("group",), "double": ("double",)}[kind]
    return (kind, rows) if paper == right else ("refused", (kind, paper))


class TextCase(Case):

    def reads(self, text):
        """Hold what a text is read as against what the patterns tell; returns the latter's word."""
        told = read_by_patterns(text)
        if told[0] == "spot":
            self.fails(ParseError, told[1], text)
        elif told[0] == "refused":
            self.fails(Refused, told[1], text)
        else:
            found = read_value(text)
            self.assertTrue(same(plain(found), told), text)
            self.assertEqual(write_value(found), text)
        return told[0]

    def fails(self, error, kept, text):
        try:
            found = read_value(text)
        except (ParseError, Refused) as caught:
            self.assertIs(type(caught), error, text)
            value = getattr(caught, KEPT[error])
            self.assertTrue(same(value, kept), f"{text!r}: {value} is not {kept}")
        else:
            self.fail(f"{text!r} is read as {found}")


class TestWriting(TextCase):

    def test_constant(self):
        self.assertEqual((strings.MAX_TEXT, type(strings.MAX_TEXT)), (3000, int))

    def test_each_kind_of_value(self):
        for value in WORDS + TABLES + GROUPS + DOUBLES:
            text = text_of(value)
            self.gives(text, write_value, value)
            self.assertLessEqual(len(text), 3000)
            found = read_value(text)
            self.assertTrue(found == value and value == found)
            self.assertIs(type(found), type(value))
            self.assertTrue(same(plain(found), plain(value)))
            self.assertTrue(read_value(text) == found)
            self.assertEqual(write_value(found), text)

    def test_texts_are_equal_for_equal_values_alone(self):
        """[19.2]"""
        values = WORDS + TABLES[::3] + GROUPS[::2] + DOUBLES[::4] + [Double.both(group) for group in GROUPS[:6]]
        for one, other in itertools.combinations(values, 2):
            self.assertEqual(write_value(one) == write_value(other), plain(one) == plain(other))

    def test_all_words_of_few_letters(self):
        for length in range(3):
            for word in itertools.product(range(24), repeat=length):
                self.gives(text_of(word), write_value, word)
                self.assertTrue(same(read_value(text_of(word)), word))

    def test_renamed_tables(self):
        """[19.4]: renamed tables need not have equal texts."""
        renamed = FOUR.renamed((1, 0, 2, 3))
        self.assertNotEqual(write_value(renamed), write_value(FOUR))
        self.assertTrue(read_value(write_value(renamed)) == renamed)

    def test_wrong_values(self):
        more = [
            (24,), (0,) * 201, (0, True), [0, 1], (-1,), ((0, 1),), "word 0", SWITCH.rows, SIX.rows, (SWITCH,), Desk(2),
            Desk, ("0",), (None,), (0, 10 ** 60), {0: 0},
        ]
        refused = 0
        for value in some_values() + more:
            if isinstance(value, (Passing, Group, Double)) or row_of(value, 24) and len(value) <= 200:
                self.gives(text_of(value), write_value, value)
            else:
                self.refuses(InvalidOperation, None, write_value, value)
                refused += 1
        self.assertGreater(refused, 70)


class TestReading(TextCase):

    def near(self, text, characters, places):
        """Texts in which one character is put in the place of another one, put in, or left out."""
        for at in places:
            yield text[:at] + text[at + 1:]
            for character in characters:
                yield text[:at] + character + text[at:]
                if character != text[at:at + 1]:
                    yield text[:at] + character + text[at + 1:]

    def check_near(self, values, characters, step=1):
        words = {}
        for value in values:
            text = text_of(value)
            for near in self.near(text, characters, range(0, len(text) + 1, step)):
                if near != text:
                    word = self.reads(near)
                    words[word] = words.get(word, 0) + 1
        return words

    def test_all_near_texts_of_small_values(self):
        values = [(), (0,), (0, 12), NONE, ONE, Group.cyclic(1), Group.cyclic(2), Double.both(Group.cyclic(1)), Double.both(Group.cyclic(2))]
        words = self.check_near(values + [SWITCH], CHARACTERS)
        self.assertEqual(set(words), {"word", "spot", "refused"})

    def test_near_texts(self):
        values = [(1, 22, 3), TURNS, Passing.of_pair((1, 2, 0), (1, 2, 0)), SIX, Group.cyclic(3), RING, RING.renamed((1, 0, 3, 2))]
        values += [renamed_group(Group.cyclic(4), (1, 0, 3, 2)), Double.about(SIX), Group.cyclic(11)]
        words = self.check_near(values, FEW_CHARACTERS)
        self.assertGreater(words["refused"], 300)

    def test_near_texts_of_large_values(self):
        values = [Passing.unmoved(8), FOUR * SWITCH, Group.cyclic(24), Double.both(Group.cyclic(12)), Double.about(SIX), (23,) * 200]
        words = self.check_near(values, ["0", "2", " "], 37)
        self.assertEqual(set(words) - {"word"}, {"spot", "refused"})

    def test_lines_changed_about(self):
        """Lines that are lacking, too many, doubled, or exchanged."""
        for value in (SWITCH, TURNS, NONE, ONE, SIX, Group.cyclic(1), RING, Double.about(SIX), (1, 2), ()):
            lines = text_of(value).split("\n")
            for at in range(len(lines) + 1):
                self.reads("\n".join(lines[:at]))
                self.reads("\n".join(lines[at:]))
                self.reads("\n".join(lines[:at] + lines[at + 1:]))
                for line in ("", " ", "0", "0,0", lines[-1], lines[0]):
                    self.reads("\n".join(lines[:at] + [line] + lines[at:]))
            for one, other in itertools.combinations(range(len(lines)), 2):
                changed = list(lines)
                changed[one], changed[other] = lines[other], lines[one]
                self.reads("\n".join(changed))

    def test_drawn_rows(self):
        """Right lines with drawn numbers: mostly they break a rule."""
        source = random.Random(19)
        words = []
        for _ in range(400):
            kind = source.choice(KINDS[1:])
            size = source.randint(1, 4)
            many = 2 * size if kind == "double" else size
            entry = (lambda: f"{source.randrange(size)},{source.randrange(size)}") if kind == "table" else (lambda: str(source.randrange(size)))
            lines = [" ".join(entry() for _ in range(size)) for _ in range(many)]
            words.append(self.reads("\n".join([f"{kind} {size}"] + lines)))
        self.assertGreater(words.count("refused"), 100)

    def test_which_part_of_a_double_is_refused(self):
        groups = [Group.cyclic(4), Group.cyclic(2) * Group.cyclic(2), renamed_group(Group.cyclic(4), (1, 0, 3, 2))]
        broken = [((0, 1, 2, 3),) * 4, ((0, 1, 2, 3), (1, 0, 3, 2), (2, 3, 0, 1), (3, 2, 1, 1))]
        words = set()
        for plus, circle in itertools.product([group.rows for group in groups] + broken, repeat=2):
            lines = [" ".join(map(str, row)) for row in plus + circle]
            text = "\n".join(["double 4"] + lines)
            self.reads(text)
            told = read_by_patterns(text)
            words.add(told[1][0] if told[0] == "refused" else told[0])
        self.assertEqual(words, {"plus", "circle", "double"})
        self.fails(Refused, ("plus", ("unit",)), "double 2\n0 0\n0 0\n0 0\n0 0")
        self.fails(Refused, ("circle", ("unit",)), "double 2\n0 1\n1 0\n0 0\n0 0")
        self.fails(Refused, ("double", ("rule", 0, 0, 0)), "double 2\n0 1\n1 0\n1 0\n0 1")
        self.fails(Refused, ("group", ("back", 1)), "group 2\n0 1\n1 1")
        self.fails(Refused, ("table", ("left", 0, 0, 1)), "table 2\n0,0 0,1\n1,0 1,1")
        self.fails(Refused, ("table", ("three", 1, 0, 0)), "table 2\n" + "\n".join(" ".join("%d,%d" % pair for pair in row) for row in BENT))

    def test_numbers_and_sizes(self):
        for number in ("0", "00", "01", "-0", "+1", "1_0", "9", "23", "24", "25", "023", "1.0", "1e1", "", " 1", "1 ", "\t1"):
            for kind in KINDS:
                self.reads(f"{kind} {number}")
                self.reads(f"{kind}{number}")
                self.reads(f"{kind}  {number}")
        for size in range(30):
            for kind in KINDS:
                self.reads(f"{kind} {size}")
                self.reads(f"{kind} {size}\n")
                self.reads(f"{kind} 0{size}")
        for kind in ("words", "Word", "tables", "WORD", "wor", "", " word", "desk", "double double"):
            for rest in ("", " ", " 1", " 1\n0", "\n"):
                self.reads(kind + rest)


class TestBounds(TextCase):

    def test_long_words(self):
        self.assertEqual(read_value("word" + " 23" * 200), (23,) * 200)
        self.fails(ParseError, 0, "word" + " 23" * 201)
        self.fails(ParseError, 0, "word" + " 0" * 201)
        self.fails(ParseError, 0, "word" + " 0" * 201 + "\n0")
        self.fails(ParseError, 1, "word" + " 0" * 200 + "\n0")

    def test_long_texts(self):
        right = text_of(Double.both(Group.cyclic(24)))
        self.assertEqual(len(right), 2985)
        self.fails(ParseError, 49, right + "\n" * (3000 - len(right)))
        self.fails(ParseError, None, right + "\n" * (3001 - len(right)))
        self.fails(ParseError, 0, "x" * 3000)
        self.fails(ParseError, None, "x" * 3001)
        self.fails(ParseError, 1, "\n".join(["word"] + [""] * 2996))
        self.fails(ParseError, None, "\n".join(["word"] + [""] * 2997))

    def test_wrong_texts(self):
        for value in some_values() + [("word",), ["word 0"], b"word", SWITCH, Desk(1)]:
            if not isinstance(value, str):
                self.refuses(ParseError, None, read_value, value)
            else:
                self.reads(value)
                self.refuses(ParseError, 0, read_value, value)

    def test_sizes(self):
        for size in range(9):
            self.assertTrue(read_value(text_of(Passing.unmoved(size))) == Passing.unmoved(size))
        for size in range(1, 25):
            self.assertTrue(read_value(text_of(Group.cyclic(size))) == Group.cyclic(size))
            self.assertTrue(read_value(text_of(Double.both(Group.cyclic(size)))) == Double.both(Group.cyclic(size)))
        rows = [" ".join(f"{y},{x}" for y in range(9)) for x in range(9)]
        self.fails(ParseError, 0, "\n".join(["table 9"] + rows))
        rows = [" ".join(str((a + b) % 25) for b in range(25)) for a in range(25)]
        self.fails(ParseError, 0, "\n".join(["group 25"] + rows))
        for kind in ("group", "double"):
            self.fails(ParseError, 0, f"{kind} 0")
            self.fails(ParseError, 1, f"{kind} 1")


if __name__ == "__main__":
    unittest.main()
