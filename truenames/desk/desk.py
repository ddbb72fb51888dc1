"""A desk: tables, words and doubles under names, and promises about them."""

from truenames.checks import check_within, is_integer, is_row
from truenames.desk.promises import is_name, is_promise, is_true, names_in
from truenames.double.doubles import Double
from truenames.errors import InvalidNumber, InvalidOperation, NothingToUndo, Refused, TooMany, UnknownName
from truenames.group.moves import check_move_of, undone_move
from truenames.table.passing import MAX_LETTERS, Passing
from truenames.word.words import MAX_WORD, passed_at

MAX_KEPT = 12
MAX_PROMISES = 12


class Desk:
    """Items and promises for one number of letters, and the deeds that changed them.

    What is kept behind each deed is a pair of dicts, which never change.
    """

    def __init__(self, size):
        check_within(size, 0, MAX_LETTERS)
        self._size = size
        self._kept = [({}, {})]
        self._deeds = 0

    @property
    def size(self):
        """How many letters there are."""
        return self._size

    @property
    def names(self):
        """The names that have an item, ascending."""
        return tuple(sorted(list(self._kept[self._deeds][0])))

    @property
    def labels(self):
        """The labels that have a promise, ascending."""
        return tuple(sorted(list(self._kept[self._deeds][1])))

    @property
    def deeds(self):
        """How many deeds stand."""
        return self._deeds

    def keep(self, name, item):
        """Keep an item under a name, in the place of a former one."""
        items, promises = self._kept[self._deeds]
        if not is_name(name):
            raise InvalidOperation("not a name")
        if not self._is_item(item):
            raise InvalidOperation("not an item of this desk")
        if name not in items and len(items) == MAX_KEPT:
            raise TooMany(MAX_KEPT)
        return self._do({**items, name: item}, promises, self._about(name))

    def _is_item(self, value):
        if isinstance(value, Passing):
            return len(value) == self._size
        if isinstance(value, tuple):
            return len(value) <= MAX_WORD and is_row(value, len(value), self._size)
        return isinstance(value, Double)

    def pass_at(self, table, word, index):
        """Put in the place of a word what it becomes when it passes at an index, by a table."""
        items, promises = self._kept[self._deeds]
        self._check_name(table)
        self._check_name(word)
        passed = passed_at(items[table], items[word], index)
        return self._do({**items, word: passed}, promises, self._about(word))

    def _check_name(self, name):
        if name not in self:
            raise UnknownName(name)

    def rename(self, order):
        """Give the letters other names, in each table and in each word."""
        items, promises = self._kept[self._deeds]
        check_move_of(order, self._size)
        renamed = {name: _renamed(kept, order) for name, kept in items.items()}
        return self._do(renamed, promises, self.labels)

    def drop(self, name):
        """Leave an item out."""
        items, promises = self._kept[self._deeds]
        self._check_name(name)
        return self._do(_without(items, name), promises, self._about(name))

    def promise(self, label, promise):
        """Add a promise under a label."""
        items, promises = self._kept[self._deeds]
        if not is_name(label):
            raise InvalidOperation("not a label")
        if not is_promise(promise):
            raise InvalidOperation("not a promise")
        if label in promises:
            raise Refused(("label", label))
        if len(promises) == MAX_PROMISES:
            raise TooMany(MAX_PROMISES)
        for name in names_in(promise):
            self._check_name(name)
        return self._do(items, {**promises, label: promise}, (label,))

    def let_go(self, label):
        """Leave a promise out."""
        items, promises = self._kept[self._deeds]
        self._check_label(label)
        return self._do(items, _without(promises, label), ())

    def _check_label(self, label):
        if label not in self.labels:
            raise UnknownName(label)

    def _about(self, name):
        """The labels of the promises with a name in them: a deed about it can break no others."""
        promises = self._kept[self._deeds][1]
        return [label for label in self.labels if name in names_in(promises[label])]

    def _do(self, items, promises, labels):
        """Keep other items and promises from now on, if what is promised under labels is true."""
        for label in labels:
            if not is_true(promises[label], items):
                raise Refused(("promise", label))
        if len(self._kept) > self._deeds + 1:
            # Deeds that were taken back cannot be done again behind this one.
            self._kept = self._kept[:self._deeds + 1]
        self._kept.append((items, promises))
        self._deeds += 1
        return self._deeds

    def undo(self, *, times=1):
        """Take the last deeds back."""
        _check_times(times, self._deeds)
        self._deeds -= times
        return self._deeds

    def redo(self, *, times=1):
        """Do deeds again that were taken back."""
        _check_times(times, len(self._kept) - 1 - self._deeds)
        self._deeds += times
        return self._deeds

    def during(self, call):
        """What a call with this desk returns; behind it everything is as it was ahead."""
        kept, deeds = list(self._kept), self._deeds
        try:
            return call(self)
        finally:
            self._kept, self._deeds = kept, deeds

    def item(self, name):
        """The item under a name."""
        self._check_name(name)
        return self._kept[self._deeds][0][name]

    def promised(self, label):
        """The promise under a label."""
        self._check_label(label)
        return self._kept[self._deeds][1][label]

    def twin(self):
        """An equal desk with the same deeds that goes on by itself."""
        other = Desk(self._size)
        other._kept = list(self._kept)
        other._deeds = self._deeds
        return other

    def __contains__(self, value):
        return is_name(value) and value in self._kept[self._deeds][0]

    def __eq__(self, other):
        if not isinstance(other, Desk) or self._size != other._size:
            return False
        return self._kept[self._deeds] == other._kept[other._deeds]

    def __len__(self):
        return len(self._kept[self._deeds][0])

    def __str__(self):
        return f"desk of {self._size} letters: {len(self.names)} items, {len(self.labels)} promises"


def _without(kept, name):
    return {other: kept[other] for other in kept if other != name}


def _renamed(kept, order):
    """An item in which the letter order[x] has the name x; doubles stay."""
    if isinstance(kept, Passing):
        return kept.renamed(order)
    if isinstance(kept, Double):
        return kept
    names = undone_move(order)
    return tuple([names[letter] for letter in kept])


def _check_times(times, most):
    """Refuse what is no number of deeds, then more deeds than there are."""
    if not is_integer(times) or times < 0:
        raise InvalidNumber(times)
    if times > most:
        raise NothingToUndo(times)
