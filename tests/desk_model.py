"""A second desk, kept as plain tuples, whose promises are judged in other ways than the program's."""

import re

from truenames.double.doubles import Double
from truenames.errors import (
    InvalidMove, InvalidNumber, InvalidOperation, InvalidTable, InvalidWord, NothingToUndo, Refused, TooMany, UnknownName,
)
from truenames.group.groups import Group
from truenames.table.passing import Passing
from tests.quiet import names_by_passing, pass_at
from tests.test_levels import levels_of, parts_of
from tests.test_own import reckoned
from tests.test_shadows import shadow_by_moves
from tests.wrong import below, move_of_size, row_of, whole

NAMES = {"quiet": 1, "calm": 1, "whole": 1, "level": 1, "kin": 3, "named": 3, "own": 2}


class Wrong(Exception):
    """What the second desk raises: an error class, and what it keeps."""


def is_name(value):
    return type(value) is str and re.fullmatch("[a-z]{1,8}", value) is not None


def is_promise(value):
    if type(value) is not tuple or not value or type(value[0]) is not str or value[0] not in NAMES:
        return False
    many = NAMES[value[0]]
    names, rest = value[1:many + 1], value[many + 1:]
    right = rest == () if value[0] != "level" else len(rest) == 1 and (rest[0] is None or below(rest[0], 9))
    return len(names) == many and all(is_name(name) for name in names) and right


def passes_twice(table):
    letters = range(len(table))
    return all(table.rows[table.rows[x][y][0]][table.rows[x][y][1]] == (x, y) for x in letters for y in letters)


def level_of(table):
    sizes = levels_of(table)
    return len(sizes) - 1 if sizes[-1] < 2 else None


def is_own(table, double):
    moves = {tuple(range(len(table)))}
    while True:
        more = moves | {tuple(one[x] for x in other) for one in moves for other in table.left}
        if more == moves:
            break
        moves = more
    if len(moves) > 24:
        return False
    plus, circle, _, _ = reckoned(table)
    return (plus, circle) == (double.plus.rows, double.circle.rows)


def is_true(promise, items):
    """Whether a promise is true of pairs of names and items."""
    kept = dict(items)
    word, names = promise[0], promise[1:NAMES[promise[0]] + 1]
    if any(name not in kept for name in names):
        return False
    told = [kept[name] for name in names]
    if type(told[0]) is not Passing:
        return False
    if word == "calm":
        return all(row[x] == x for x, row in enumerate(shadow_by_moves(told[0])))
    if not passes_twice(told[0]):
        return False
    if word in ("kin", "named") and not all(type(one) is tuple for one in told[1:]):
        return False
    if word == "own" and type(told[1]) is not Double:
        return False
    return {
        "quiet": lambda table: True,
        "whole": lambda table: len(parts_of(table)) < 2,
        "level": lambda table: level_of(table) == promise[-1],
        "kin": lambda table, one, other: sorted(names_by_passing(table, one)) == sorted(names_by_passing(table, other)),
        "named": lambda table, one, other: names_by_passing(table, one) == other,
        "own": is_own,
    }[word](*told)


def changed(pairs, name, value):
    """Ascending pairs with a value under a name."""
    return tuple(sorted([pair for pair in pairs if pair[0] != name] + [(name, value)], key=lambda pair: pair[0]))


def without(pairs, name):
    return tuple(pair for pair in pairs if pair[0] != name)


def renamed_rows(table, order):
    names = {letter: index for index, letter in enumerate(order)}
    return tuple(tuple(tuple(names[z] for z in table.rows[x][y]) for y in order) for x in order)


class Model:
    """What is kept behind each deed is a pair of tuples of pairs; done and undone ones are tuples, too."""

    def __init__(self, size, done=(((), ()),), undone=()):
        self.size, self.done, self.undone = size, done, undone

    @property
    def items(self):
        return self.done[-1][0]

    @property
    def promises(self):
        return self.done[-1][1]

    def do(self, items, promises):
        for label, promise in promises:
            if not is_true(promise, items):
                raise Wrong(Refused, ("promise", label))
        self.done, self.undone = self.done + ((items, promises),), ()
        return len(self.done) - 1

    def is_item(self, value):
        if type(value) is Passing:
            return len(value) == self.size
        return type(value) is Double or row_of(value, self.size) and len(value) <= 200

    def need(self, pairs, name):
        if not is_name(name) or name not in dict(pairs):
            raise Wrong(UnknownName, name)
        return dict(pairs)[name]

    def keep(self, name, item):
        if not is_name(name) or not self.is_item(item):
            raise Wrong(InvalidOperation, None)
        if name not in dict(self.items) and len(self.items) == 12:
            raise Wrong(TooMany, 12)
        return self.do(changed(self.items, name, item), self.promises)

    def pass_at(self, table, word, index):
        by, letters = self.need(self.items, table), self.need(self.items, word)
        if type(by) is not Passing:
            raise Wrong(InvalidTable, None)
        if type(letters) is not tuple:
            raise Wrong(InvalidWord, None)
        if not below(index, len(letters) - 1):
            raise Wrong(InvalidNumber, index)
        return self.do(changed(self.items, word, pass_at(by, letters, index)), self.promises)

    def rename(self, order):
        if not move_of_size(order, self.size):
            raise Wrong(InvalidMove, None)
        items = []
        for name, item in self.items:
            if type(item) is Passing:
                item = Passing(renamed_rows(item, order))
            elif type(item) is tuple:
                item = tuple(order.index(letter) for letter in item)
            items.append((name, item))
        return self.do(tuple(items), self.promises)

    def drop(self, name):
        self.need(self.items, name)
        return self.do(without(self.items, name), self.promises)

    def promise(self, label, promise):
        if not is_name(label) or not is_promise(promise):
            raise Wrong(InvalidOperation, None)
        if label in dict(self.promises):
            raise Wrong(Refused, ("label", label))
        if len(self.promises) == 12:
            raise Wrong(TooMany, 12)
        for name in promise[1:NAMES[promise[0]] + 1]:
            self.need(self.items, name)
        return self.do(self.items, changed(self.promises, label, promise))

    def let_go(self, label):
        self.need(self.promises, label)
        return self.do(self.items, without(self.promises, label))

    def undo(self, times=1):
        if not whole(times) or times < 0:
            raise Wrong(InvalidNumber, times)
        if times > len(self.done) - 1:
            raise Wrong(NothingToUndo, times)
        for _ in range(times):
            self.done, self.undone = self.done[:-1], (self.done[-1],) + self.undone
        return len(self.done) - 1

    def redo(self, times=1):
        if not whole(times) or times < 0:
            raise Wrong(InvalidNumber, times)
        if times > len(self.undone):
            raise Wrong(NothingToUndo, times)
        for _ in range(times):
            self.done, self.undone = self.done + (self.undone[0],), self.undone[1:]
        return len(self.done) - 1

    def item(self, name):
        return self.need(self.items, name)

    def promised(self, label):
        return self.need(self.promises, label)

    def twin(self):
        return Model(self.size, self.done, self.undone)


def group_rows(double):
    """A double as plain tuples."""
    return (double.plus.rows, double.circle.rows)


def plain(item):
    """An item as plain tuples, with its kind."""
    if type(item) is Passing:
        return ("table", item.rows)
    return ("double", group_rows(item)) if type(item) is Double else ("word", item)


def both_of(size):
    return Double.both(Group.cyclic(size))
