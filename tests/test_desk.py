"""Stage 18 [18.1] to [18.4]: a desk held against a second one of plain tuples, deed by deed."""

import copy
import random
import unittest

from truenames.desk import desk as module
from truenames.desk.desk import Desk
from truenames.double.doubles import Double
from truenames.double.making import all_fair
from truenames.double.own import own_double
from truenames.errors import (
    InvalidMove, InvalidNumber, InvalidOperation, InvalidTable, InvalidWord, NothingToUndo, Refused, TooMany, UnknownName,
)
from truenames.table.levels import level
from truenames.table.passing import Passing
from truenames.word.words import true_names
from tests.desk_model import Model, Wrong, both_of, is_name, is_promise, passes_twice, plain
from tests.helper import FOUR, KEPT, RING, SIX, SWITCH, TURNS, Case, all_moves, same, some_values
from tests.quiet import BENT_PAIR, LAST, SMALL, drawn_words, names_by_passing, turned_round
from tests.test_own import TOO_MUCH
from tests.wrong import below, move_of_size, whole

NONE, ONE, TWO = Passing.unmoved(0), Passing.unmoved(1), Passing.unmoved(2)
TABLES = {
    0: [NONE], 1: [ONE], 2: list(all_fair(2)),
    3: [table for table in SMALL if len(table) == 3] + [TURNS, BENT_PAIR] + list(all_fair(3))[::9],
    4: [FOUR, Passing.unmoved(4), SWITCH * SWITCH, turned_round(4), Passing.of_pair((1, 2, 3, 0), (0, 1, 2, 3))],
}
DOUBLES = [both_of(1), both_of(2), both_of(3), RING, RING.renamed((1, 0, 2, 3)), both_of(4), Double.about(SIX), own_double(FOUR)[0]]
NAMES = ("a", "b", "c", "d", "e")
WRONG_NAMES = ("", "A", "abcdefghi", "a b", "a1", None, 0, ("a",), ["a"], True, "zz", "\n", "aa\n")


def outcome(deed, *arguments, **more):
    """What a deed of the desk returns or raises, with what the error keeps."""
    try:
        return ("returned", deed(*arguments, **more))
    except Exception as error:
        kind = type(error)
        return (kind, getattr(error, KEPT[kind]) if kind in KEPT else None)


def told_outcome(deed, *arguments):
    try:
        return ("returned", deed(*arguments))
    except Wrong as error:
        return error.args


class DeskCase(Case):

    def held(self, desk, model):
        """Compare all that a desk tells with the second one."""
        self.assertEqual(desk.names, tuple(name for name, _ in model.items))
        self.assertEqual(desk.labels, tuple(label for label, _ in model.promises))
        self.assertEqual([plain(desk.item(name)) for name in desk.names], [plain(item) for _, item in model.items])
        self.assertEqual([desk.promised(label) for label in desk.labels], [promise for _, promise in model.promises])
        self.assertEqual((desk.size, desk.deeds, len(desk)), (model.size, len(model.done) - 1, len(model.items)))
        counts = f"{len(model.items)} items, {len(model.promises)} promises"
        self.assertEqual(str(desk), f"desk of {model.size} letters: {counts}")
        self.assertTrue(all((name in desk) == (name in dict(model.items)) for name in NAMES + ("f", "zz")))

    def both(self, desk, model, deed, *arguments, **more):
        """Do a deed at both desks, which must answer alike."""
        told = told_outcome(getattr(model, deed), *arguments, *more.values())
        ahead = copy.deepcopy(arguments)
        found = outcome(getattr(desk, deed), *arguments, **more)
        self.assertTrue(same(found, told), f"{deed} {arguments} {more}: {found} is not {told}")
        self.assertEqual(arguments, ahead)
        self.held(desk, model)
        return found[0]


class Drawing:
    """Deeds drawn for a size, right ones and wrong ones: mostly a and b are tables, c and d words, e a double."""

    def __init__(self, seed, size):
        self.source = random.Random(seed)
        self.size = size

    def name(self, names=NAMES):
        draw = self.source.random()
        return self.source.choice(names if draw < 0.85 else NAMES if draw < 0.96 else WRONG_NAMES)

    def word(self):
        if self.size == 0:
            return ()
        return tuple(self.source.randrange(self.size) for _ in range(self.source.choice((0, 1, 2, 2, 3, 3, 4))))

    def item(self, name):
        draw = self.source.random()
        if draw < 0.05:
            return self.source.choice([None, [0], (self.size,), (True,), SIX, "a", TABLES[(self.size + 1) % 5][0], (0,) * 201])
        kind = "abcde".find(str(name)) if draw < 0.9 else self.source.randrange(5)
        if kind in (0, 1):
            return self.source.choice(TABLES[self.size])
        return self.source.choice(DOUBLES) if kind == 4 else self.word()

    def promise(self):
        table, words, double = self.name("ab"), (self.name("cd"), self.name("cd")), self.name("e")
        return self.source.choice([
            ("quiet", table), ("calm", table), ("whole", table), ("level", table, self.source.choice((0, 1, 1, 2, None, 9, True))),
            ("kin", table, *words), ("kin", table, words[0], words[0]), ("named", table, *words), ("own", table, double),
            ("quiet", table), ("calm", table), ("whole", table),
            ("loud", table), ("quiet",), ("quiet", table, *words), ["quiet", table],
        ])

    def naming(self, model):
        """A deed about the true names of the word c by the table a, so that promises about them can be true."""
        items = dict(model.items)
        table, word = items.get("a"), items.get("c")
        if type(table) is Passing and passes_twice(table) and type(word) is tuple:
            names = names_by_passing(table, word)
            return self.source.choice([("keep", ("d", names)), ("promise", ("n", ("named", "a", "c", "d")))])
        return "keep", ("a", self.source.choice(TABLES[self.size]))

    def deed(self, model):
        source = self.source
        if source.random() < 0.15:
            return self.naming(model)
        word = source.choice((
            "keep", "keep", "keep", "keep", "pass_at", "pass_at", "pass_at", "rename", "drop", "promise", "promise", "let_go",
            "undo", "redo",
        ))
        if word == "keep":
            name = self.name()
            return word, (name, self.item(name))
        if word == "pass_at":
            return word, (self.name("ab"), self.name("cd"), source.choice((0, 0, 0, 0, 1, 1, 2, -1, True)))
        if word == "rename":
            order = source.sample(range(self.size), self.size)
            return word, (tuple(order) if source.random() < 0.9 else order,)
        if word == "promise":
            return word, (source.choice(("p", "q", "r", "s", self.name())), self.promise())
        if word == "let_go":
            return word, (source.choice(("n", "p", "q", "r", "s", self.name())),)
        if word == "drop":
            return word, (self.name(),)
        return word, (source.choice((0, 1, 1, 1, 1, 2, 3, 50, -1, True, None, 10 ** 60)),)


class TestDeeds(DeskCase):

    def test_drawn_deeds(self):
        outcomes = {}
        for seed in range(40):
            size = seed % 5
            desk, model, drawing = Desk(size), Model(size), Drawing(seed, size)
            for _ in range(120):
                word, arguments = drawing.deed(model)
                if word in ("undo", "redo"):
                    found = self.both(desk, model, word, times=arguments[0])
                else:
                    found = self.both(desk, model, word, *arguments)
                name = found if isinstance(found, str) else found.__name__
                outcomes[word, name] = outcomes.get((word, name), 0) + 1
        for word in ("keep", "pass_at", "rename", "drop", "promise", "let_go", "undo", "redo"):
            self.assertGreater(outcomes[word, "returned"], 20, outcomes)
        for word in ("keep", "pass_at", "drop", "promise"):
            self.assertGreater(outcomes.get((word, "Refused"), 0), 5, outcomes)

    def test_twins_go_on_by_themselves(self):
        for seed in range(10):
            size = seed % 5
            desk, model, drawing = Desk(size), Model(size), Drawing(100 + seed, size)
            twins = [(desk, model)]
            for step in range(150):
                one, other = twins[step % len(twins)]
                word, arguments = drawing.deed(other)
                if word in ("undo", "redo"):
                    self.both(one, other, word, times=arguments[0])
                else:
                    self.both(one, other, word, *arguments)
                if step % 30 == 20:
                    twins.append((one.twin(), other.twin()))
                    self.assertTrue(twins[-1][0] == one)
                for each in twins:
                    self.held(*each)

    def test_passing_keeps_kin_words_kin(self):
        """[18.4]"""
        for table in [table for tables in TABLES.values() for table in tables if table.is_quiet and len(table) > 1]:
            desk = Desk(len(table))
            desk.keep("t", table)
            for word in drawn_words(18, table, 3, (2, 3, 5)):
                desk.keep("w", word)
                desk.keep("v", word)
                desk.promise("p", ("kin", "t", "w", "v"))
                desk.promise("n", ("level", "t", level(table)))
                for index in list(range(len(word) - 1)) * 3:
                    desk.pass_at("t", "w", index)
                for order in all_moves(len(table))[::5]:
                    desk.rename(order)
                desk.let_go("p")
                desk.let_go("n")

    def test_renaming_can_break_own_doubles(self):
        """[18.4]: the own double of a renamed table can have its things in another order."""
        found = set()
        for table in (FOUR, turned_round(4), SWITCH * SWITCH, LAST):
            desk, model = Desk(len(table)), Model(len(table))
            for name, item in (("t", table), ("d", own_double(table)[0])):
                self.both(desk, model, "keep", name, item)
            self.both(desk, model, "promise", "p", ("own", "t", "d"))
            for order in all_moves(len(table))[::3]:
                found.add(self.both(desk, model, "rename", order))
                if desk.deeds > 3:
                    desk.undo()
                    model.undo()
        self.assertEqual(found, {"returned", Refused})

    def test_own_doubles_of_tables_with_too_many_moves(self):
        desk = Desk(8)
        desk.keep("t", TOO_MUCH)
        desk.keep("d", both_of(24))
        self.refuses(Refused, ("promise", "p"), desk.promise, "p", ("own", "t", "d"))
        self.assertEqual(desk.deeds, 2)


class TestPromises(DeskCase):

    def test_each_promise_of_each_item(self):
        """Every promise about some items, right kinds and others, as the second desk judges it."""
        for size in (0, 2, 3):
            words = [(), (0, 0), (1, 1), (0, 1)] if size else [()]
            items = TABLES[size][:9] + words[:3] + [both_of(1), both_of(2), RING]
            for item in items:
                desk, model = Desk(size), Model(size)
                self.both(desk, model, "keep", "a", item)
                for many in (0, 1, 2, 8, None):
                    self.both(desk, model, "promise", "p", ("level", "a", many))
                for label, word in (("q", "quiet"), ("r", "calm"), ("s", "whole")):
                    self.both(desk, model, "promise", label, (word, "a"))
                for other in items[-6:]:
                    self.both(desk, model, "keep", "b", other)
                    self.both(desk, model, "promise", "o", ("own", "a", "b"))
                    self.both(desk, model, "let_go", "o")
                    for word in words:
                        self.both(desk, model, "keep", "c", word)
                        for label, form in (("k", "kin"), ("n", "named")):
                            self.both(desk, model, "promise", label, (form, "a", "b", "c"))
                            self.both(desk, model, "let_go", label)

    def test_forms_of_promises(self):
        desk = Desk(2)
        for name, item in (("t", SWITCH), ("w", (0, 0)), ("v", (1, 1)), ("d", both_of(2)), ("n", true_names(SWITCH, (0, 0)))):
            desk.keep(name, item)
        right = [
            ("quiet", "t"), ("calm", "t"), ("whole", "t"), ("level", "t", 1), ("kin", "t", "w", "v"), ("named", "t", "w", "n"),
            ("own", "t", "d"),
        ]
        for index, promise in enumerate(right):
            self.assertTrue(is_promise(promise))
            desk.promise("abcdefg"[index], promise)
        self.assertEqual([desk.promised(label) for label in "abcdefg"], right)
        wrong = []
        for promise in right:
            wrong += [list(promise), promise[:-1], promise + ("t",), promise + (1,), (promise,), promise[:1] + ("T",) + promise[2:]]
            wrong += [promise[:1] + (0,) + promise[2:], ("x" + promise[0],) + promise[1:], (True,) + promise[1:], promise[1:]]
            wrong += [promise[:-1] + (value,) for value in (True, False, -1, 9, "", "abcdefghi", (), [], {}, 10 ** 99, SWITCH, desk)]
        for promise in wrong + some_values():
            if not is_promise(promise):
                self.refuses(InvalidOperation, None, desk.promise, "z", promise)
        self.assertEqual(desk.deeds, 12)

    def test_the_least_label_is_told(self):
        desk = Desk(2)
        desk.keep("t", SWITCH)
        for label in ("q", "b", "zz", "c"):
            desk.promise(label, ("quiet", "t"))
        desk.promise("a", ("calm", "t"))
        uncalm = Passing.of_pair((1, 0), (0, 1))
        self.refuses(Refused, ("promise", "a"), desk.keep, "t", uncalm)
        desk.let_go("a")
        self.refuses(Refused, ("promise", "b"), desk.keep, "t", uncalm)
        self.refuses(Refused, ("promise", "b"), desk.drop, "t")
        self.refuses(Refused, ("promise", "b"), desk.keep, "t", (0, 1))
        self.assertEqual((desk.deeds, desk.item("t")), (7, SWITCH))


class TestBounds(DeskCase):

    def test_constants(self):
        self.assertEqual((module.MAX_KEPT, module.MAX_PROMISES), (12, 12))

    def test_sizes(self):
        for size in range(9):
            desk = Desk(size)
            self.assertEqual((desk.size, desk.names, desk.labels, desk.deeds, len(desk)), (size, (), (), 0, 0))
            self.assertEqual(str(desk), f"desk of {size} letters: 0 items, 0 promises")
        for value in some_values() + [9, -1]:
            if not below(value, 9):
                self.refuses(InvalidNumber, value, Desk, value)

    def test_twelve_names_and_labels(self):
        desk, model = Desk(2), Model(2)
        for letter in "abcdefghijkl":
            self.both(desk, model, "keep", letter, SWITCH)
        self.assertIs(self.both(desk, model, "keep", "m", SWITCH), TooMany)
        self.assertEqual(self.both(desk, model, "keep", "l", TWO), "returned")
        self.refuses(InvalidOperation, None, desk.keep, "m", 3)
        for letter in "abcdefghijkl":
            self.both(desk, model, "promise", letter * 8, ("quiet", letter))
        self.assertIs(self.both(desk, model, "promise", "m", ("quiet", "x")), TooMany)
        self.assertIs(self.both(desk, model, "promise", "a" * 8, ("quiet", "x")), Refused)
        self.refuses(InvalidOperation, None, desk.promise, "a" * 8, ("quiet", 3))
        self.both(desk, model, "let_go", "a" * 8)
        self.both(desk, model, "promise", "m", ("quiet", "x"))
        self.both(desk, model, "promise", "m", ("quiet", "a"))
        self.both(desk, model, "drop", "b")
        self.both(desk, model, "let_go", "b" * 8)
        self.both(desk, model, "drop", "b")
        self.both(desk, model, "keep", "m", (0,) * 200)
        self.refuses(InvalidOperation, None, desk.keep, "m", (0,) * 201)

    def test_many_deeds(self):
        desk = Desk(2)
        for index in range(2000):
            self.assertEqual(desk.keep("a", (index % 2,)), index + 1)
        self.assertEqual(desk.undo(times=2000), 0)
        self.refuses(NothingToUndo, 1, lambda: desk.undo())
        self.assertEqual(desk.redo(times=1999), 1999)
        self.assertEqual(desk.item("a"), (0,))
        self.assertEqual(desk.redo(), 2000)
        self.refuses(NothingToUndo, 1, lambda: desk.redo())
        self.refuses(NothingToUndo, 2001, lambda: desk.undo(times=2001))
        self.assertEqual(desk.undo(times=0), 2000)

    def test_a_further_deed_ends_redoing(self):
        desk = Desk(2)
        desk.keep("a", (0,))
        desk.keep("a", (1,))
        desk.undo()
        self.refuses(UnknownName, "b", desk.drop, "b")
        self.assertEqual((desk.redo(times=0), desk.redo()), (1, 2))
        desk.undo()
        self.assertEqual(desk.keep("a", (0,)), 2)
        self.refuses(NothingToUndo, 1, lambda: desk.redo())
        self.assertEqual((desk.undo(times=2), desk.names), (0, ()))
        self.assertEqual((desk.redo(times=2), desk.item("a")), (2, (0,)))


class TestDuring(DeskCase):

    def filled(self):
        desk = Desk(2)
        for name, item in (("t", SWITCH), ("w", (0, 0)), ("v", (1, 1))):
            desk.keep(name, item)
        desk.promise("p", ("kin", "t", "w", "v"))
        desk.undo()
        return desk

    def test_all_is_as_it_was(self):
        def change(desk):
            found.append(desk)
            desk.undo(times=2)
            desk.keep("x", (0, 1))
            desk.drop("x")
            desk.rename((1, 0))
            return (desk.names, desk.deeds)

        desk, found = self.filled(), []
        self.assertEqual(desk.during(change), (("t",), 4))
        self.assertIs(found[0], desk)
        self.assertEqual((desk.names, desk.labels, desk.deeds), (("t", "v", "w"), (), 3))
        self.assertTrue(desk == self.filled())
        self.assertEqual((desk.redo(), desk.labels), (4, ("p",)))
        self.assertEqual(desk.undo(times=4), 0)

    def test_errors_come_through(self):
        def fail(desk):
            desk.keep("w", (1, 0))
            desk.drop("nothing")

        def stop(desk):
            desk.undo()
            raise KeyError("stop")

        desk = self.filled()
        self.refuses(UnknownName, "nothing", desk.during, fail)
        with self.assertRaises(KeyError):
            desk.during(stop)
        self.assertEqual((desk.item("w"), desk.deeds), ((0, 0), 3))
        self.assertEqual(desk.redo(), 4)

    def test_calls_in_calls(self):
        def inner(desk):
            desk.keep("y", (1,))
            return desk.names

        def outer(desk):
            desk.keep("x", (1,))
            first = desk.during(inner)
            return (first, desk.names, desk.undo(), desk.redo())

        desk = self.filled()
        self.assertEqual(desk.during(outer), (("t", "v", "w", "x", "y"), ("t", "v", "w", "x"), 3, 4))
        self.assertEqual((desk.names, desk.redo()), (("t", "v", "w"), 4))
        self.assertEqual(desk.during(lambda shown: None), None)
        self.assertEqual(desk.during(lambda shown: shown.twin()), desk)


class TestOperators(DeskCase):

    def test_in(self):
        desk = Desk(2)
        desk.keep("a", SWITCH)
        desk.promise("p", ("quiet", "a"))
        for value in some_values() + ["a", "p", "b", ("a",), "aa"]:
            self.assertIs(value in desk, value == "a")
            self.assertIs(value not in desk, value != "a")

    def test_equality(self):
        one, other = Desk(2), Desk(2)
        one.keep("a", SWITCH)
        self.assertIs(one == other, False)
        other.keep("b", (0,))
        other.keep("a", SWITCH)
        self.assertIs(one != other, True)
        other.drop("b")
        self.assertIs(one == other, True)
        self.assertIs(one != other, False)
        self.assertNotEqual(one.deeds, other.deeds)
        one.promise("p", ("quiet", "a"))
        self.assertIs(one == other, False)
        other.promise("p", ("calm", "a"))
        self.assertIs(one == other, False)
        self.assertIs(Desk(2) == Desk(3), False)
        self.assertIs(Desk(0) == Desk(0), True)
        for value in some_values():
            self.assertIs(one == value, False)
            self.assertIs(one != value, True)
            self.assertIs(value == one, False)
        self.assertTrue(one in [SWITCH, one.twin()])

    def test_unlike_items_under_one_name(self):
        for first, second in (((0, 1), (1, 0)), ((), SWITCH), (SWITCH, TWO), (RING, both_of(4)), (SWITCH, RING)):
            one, other = Desk(2), Desk(2)
            one.keep("a", first)
            other.keep("a", second)
            self.assertIs(one == other, False)

    def test_other_operators(self):
        desk = Desk(2)
        desk.keep("a", SWITCH)
        for make in (
            lambda: iter(desk), lambda: list(desk), lambda: desk["a"], lambda: desk[0], lambda: desk + desk, lambda: desk * 2,
            lambda: desk < desk, lambda: -desk, lambda: ~desk, lambda: desk | desk, lambda: tuple(desk),
        ):
            with self.assertRaises(TypeError):
                make()
        for attribute in ("size", "names", "labels", "deeds"):
            with self.assertRaises(AttributeError):
                setattr(desk, attribute, 1)

    def test_nothing_is_shared(self):
        desk = Desk(2)
        item, promise = (0, 1), ("level", "t", 1)
        desk.keep("t", SWITCH)
        desk.keep("w", item)
        desk.promise("p", promise)
        self.assertEqual((desk.item("w"), desk.promised("p")), (item, promise))
        self.assertTrue(same((desk.names, desk.labels), (("t", "w"), ("p",))))
        self.assertTrue(same(desk.item("t").rows, SWITCH.rows))


class TestWrong(DeskCase):

    def desk_of_all(self):
        desk = Desk(2)
        for name, item in (("t", SWITCH), ("w", (0, 0, 1)), ("d", RING), ("e", ())):
            desk.keep(name, item)
        desk.promise("p", ("quiet", "t"))
        return desk

    def stays(self, desk):
        self.assertEqual((desk.names, desk.labels, desk.deeds), (("d", "e", "t", "w"), ("p",), 5))

    def test_names_and_items(self):
        desk = self.desk_of_all()
        for value in some_values() + list(WRONG_NAMES):
            if not is_name(value):
                self.refuses(InvalidOperation, None, desk.keep, value, None)
                self.refuses(InvalidOperation, None, desk.promise, value, None)
                for label in (desk.let_go, desk.promised):
                    self.refuses(UnknownName, value, label, value)
            if value not in ("d", "e", "t", "w"):
                for call in (desk.drop, desk.item):
                    self.refuses(UnknownName, value, call, value)
                self.refuses(UnknownName, value, desk.pass_at, value, None, None)
                self.refuses(UnknownName, value, desk.pass_at, "t", value, None)
                self.refuses(UnknownName, value, desk.pass_at, "w", value, None)
            if not Model(2).is_item(value):
                self.refuses(InvalidOperation, None, desk.keep, "w", value)
        for item in (desk, Desk(2), TURNS, ONE, (2,), (0, True), [0], SIX):
            self.refuses(InvalidOperation, None, desk.keep, "w", item)
        self.refuses(UnknownName, "t", desk.promised, "t")
        self.refuses(UnknownName, "p", desk.item, "p")
        self.stays(desk)

    def test_passing(self):
        desk = self.desk_of_all()
        for table in ("w", "d", "e"):
            self.refuses(InvalidTable, None, desk.pass_at, table, "w", None)
            self.refuses(InvalidTable, None, desk.pass_at, table, "t", None)
        for word in ("t", "d"):
            self.refuses(InvalidWord, None, desk.pass_at, "t", word, None)
        for value in some_values() + [2, 3, -1]:
            if not below(value, 2):
                self.refuses(InvalidNumber, value, desk.pass_at, "t", "w", value)
            self.refuses(InvalidNumber, value, desk.pass_at, "t", "e", value)
        self.refuses(UnknownName, "x", desk.pass_at, "x", "y", 9)
        self.stays(desk)

    def test_orders_and_times(self):
        desk = self.desk_of_all()
        for value in some_values():
            if not move_of_size(value, 2):
                self.refuses(InvalidMove, None, desk.rename, value)
            if not whole(value) or value < 0:
                self.refuses(InvalidNumber, value, lambda times: desk.undo(times=times), value)
                self.refuses(InvalidNumber, value, lambda times: desk.redo(times=times), value)
            elif value > 5:
                self.refuses(NothingToUndo, value, lambda times: desk.undo(times=times), value)
                self.refuses(NothingToUndo, value, lambda times: desk.redo(times=times), value)
        with self.assertRaises(TypeError):
            desk.undo(1)
        with self.assertRaises(TypeError):
            desk.redo(1)
        self.stays(desk)

    def test_names_in_promises(self):
        desk = self.desk_of_all()
        for promise, name in (
            (("kin", "t", "x", "y"), "x"), (("kin", "x", "y", "z"), "x"), (("kin", "t", "w", "y"), "y"), (("own", "x", "y"), "x"),
            (("own", "d", "y"), "y"), (("level", "x", 3), "x"), (("named", "d", "d", "x"), "x"), (("quiet", "p"), "p"),
        ):
            self.refuses(UnknownName, name, desk.promise, "q", promise)
            self.refuses(Refused, ("label", "p"), desk.promise, "p", promise)
        for promise in (("quiet", "w"), ("calm", "d"), ("kin", "t", "d", "w"), ("own", "t", "w"), ("named", "w", "w", "w"), ("level", "d", None)):
            self.refuses(Refused, ("promise", "q"), desk.promise, "q", promise)
        self.stays(desk)


if __name__ == "__main__":
    unittest.main()
