"""Words: passing in them, the true names of their letters, and kin words."""

from math import factorial

from truenames.checks import check_within, is_row, is_same, is_thing
from truenames.errors import InvalidMove, InvalidOperation, InvalidWord, TooMany
from truenames.group.moves import joined_moves
from truenames.table.passing import check_quiet, check_table

MAX_WORD = 200
MAX_LED = 60
MAX_KIN = 5000
# The most passings that are walked at once, and the most that a paper has.
MAX_WALKED = 20000
MAX_SHOWN = 2000


def check_word(table, word):
    """Refuse what is no word of the table."""
    if not isinstance(word, tuple) or len(word) > MAX_WORD:
        raise InvalidWord("not a tuple of few enough letters")
    if not is_row(word, len(word), len(table)):
        raise InvalidWord("not a tuple of letters of the table")


def passed_at(table, word, index):
    """The word behind passing at an index."""
    check_table(table)
    check_word(table, word)
    check_within(index, 0, len(word) - 2)
    return _walked(table, word, (index,))


def walked(table, word, indices):
    """The word behind passings at some indices, one after the other."""
    check_table(table)
    check_word(table, word)
    if not _is_walk(indices, word, MAX_WALKED):
        raise InvalidOperation("not a tuple of indices at which letters can pass")
    return _walked(table, word, indices)


def _is_walk(value, word, most):
    if not isinstance(value, tuple) or len(value) > most:
        return False
    return is_row(value, len(value), len(word) - 1)


def _walked(table, word, indices):
    rows = table.rows
    letters = list(word)
    for index in indices:
        pair = rows[letters[index]][letters[index + 1]]
        letters[index], letters[index + 1] = pair
    return tuple(letters)


def crossed(table, word, move):
    """The word crossed by a move, which tells where the string of each letter ends."""
    check_table(table)
    check_word(table, word)
    if not is_row(move, len(word), len(word)) or len(set(move)) < len(word):
        raise InvalidMove("not a move of as many places as there are letters")
    return _walked(table, word, _sorting_indices(move))


def _sorting_indices(ends):
    """Where neighbours change places until ends ascend; equal ones never change."""
    standing = list(ends)
    indices = []
    for place in range(len(standing)):
        index = place - 1
        while index >= 0 and standing[index] > standing[index + 1]:
            standing[index], standing[index + 1] = standing[index + 1], standing[index]
            indices.append(index)
            index -= 1
    return indices


def true_names(table, word):
    """The true names of the letters of a word."""
    check_table(table)
    check_word(table, word)
    check_quiet(table)
    return names_of(table, word)


def names_of(table, word):
    """The true names of the letters of a word, without checks."""
    turning = tuple(range(len(table)))
    names = []
    for letter in word:
        names.append(turning[letter])
        turning = joined_moves(turning, table.left[letter])
    return tuple(names)


def word_of_names(table, names):
    """The word whose letters have these true names."""
    check_table(table)
    check_word(table, names)
    check_quiet(table)
    return letters_of(table, names)


def letters_of(table, names):
    """The word with these names, without checks."""
    turning = tuple(range(len(table)))
    letters = []
    for name in names:
        letters.append(turning.index(name))
        turning = joined_moves(turning, table.left[letters[-1]])
    return tuple(letters)


def kin_paper(table, one, other):
    """Passings that lead a word to another one, or a name that they have unequally often."""
    _check_led(table, one, other)
    names, others = names_of(table, one), names_of(table, other)
    for letter in range(len(table)):
        if names.count(letter) != others.count(letter):
            return ("name", letter)
    return ("passings", tuple(_sorting_indices(_goals(names, others))))


def is_kin_paper(table, one, other, value):
    """Whether the value is a right paper about two words."""
    _check_led(table, one, other)
    if not isinstance(value, tuple) or len(value) != 2:
        return False
    word, shown = value
    if is_same(word, "name") and is_thing(shown, len(table)):
        return names_of(table, one).count(shown) != names_of(table, other).count(shown)
    if not is_same(word, "passings") or not _is_walk(shown, one, MAX_SHOWN):
        return False
    return _walked(table, one, shown) == other


def steps_between(table, one, other):
    """The fewest passings that lead a word to another one, or None."""
    _check_two(table, one, other)
    names, others = names_of(table, one), names_of(table, other)
    if sorted(names) != sorted(others):
        return None
    return len(_sorting_indices(_goals(names, others)))


def _check_two(table, one, other):
    check_table(table)
    check_word(table, one)
    check_word(table, other)
    check_quiet(table)


def _check_led(table, one, other):
    _check_two(table, one, other)
    if max(len(one), len(other)) > MAX_LED:
        raise TooMany(MAX_LED)


def _goals(names, others):
    """The places that names have among the others; equal ones keep their sequence."""
    starts = sorted([(name, place) for place, name in enumerate(names)])
    ends = sorted([(name, place) for place, name in enumerate(others)])
    goals = {start[1]: ends[index][1] for index, start in enumerate(starts)}
    return [goals[place] for place in range(len(names))]


def kin_count(table, word):
    """The number of words that passings lead a word to."""
    check_table(table)
    check_word(table, word)
    check_quiet(table)
    return _orders_of(_name_counts(table, word))


def kin_words(table, word):
    """All words that passings lead a word to, ascending."""
    check_table(table)
    check_word(table, word)
    check_quiet(table)
    counts = _name_counts(table, word)
    if _orders_of(counts) > MAX_KIN:
        raise TooMany(MAX_KIN)
    yield from _words_with(table, counts)


def _name_counts(table, word):
    names = names_of(table, word)
    return tuple([names.count(letter) for letter in range(len(table))])


def _orders_of(counts):
    many = factorial(sum(counts))
    for count in counts:
        many = many // factorial(count)
    return many


def _words_with(table, counts):
    """All words, ascending, whose true names occur as often as told.

    Each begun word can be ended, so there are never more of them than words.
    """
    begun = [((), tuple(range(len(table))), counts)]
    for _ in range(sum(counts)):
        begun = [longer for part in begun for longer in _longer_words(table, part)]
    return [part[0] for part in begun]


def _longer_words(table, part):
    """A begun word with one more letter: with it, its L and the counts that are left."""
    word, turning, counts = part
    longer = []
    for letter, name in enumerate(turning):
        if counts[name] > 0:
            left = counts[:name] + (counts[name] - 1,) + counts[name + 1:]
            longer.append((word + (letter,), joined_moves(turning, table.left[letter]), left))
    return longer
