"""Closed strings, and the rows of letters that they lead to themselves.

The rows of letters are told by their numbers, ascending: the letters are the digits.
"""

from truenames.checks import check_within, is_integer
from truenames.errors import InvalidNumber, InvalidStrings, InvalidTable, TooMany
from truenames.group.moves import cycles, undone_move
from truenames.table.passing import check_table
from truenames.table.shadows import are_shadow_rows, table_of_shadow

MAX_STRINGS = 5
MAX_CROSSINGS = 40
MAX_ROWS = 4096


def check_strings(strings, word):
    """Refuse what is no number of strings, then what is no string word of so many."""
    check_within(strings, 1, MAX_STRINGS)
    if not isinstance(word, tuple) or len(word) > MAX_CROSSINGS:
        raise InvalidStrings("not a tuple of few enough crossings")
    if not all([is_integer(crossing) and 0 < abs(crossing) < strings for crossing in word]):
        raise InvalidStrings("not a tuple of crossings of these strings")


def count_rows(table, strings):
    """The number of all rows of letters, refused if there are too many."""
    many = 1
    for _ in range(strings):
        many = many * len(table)
    if many > MAX_ROWS:
        raise TooMany(MAX_ROWS)
    return many


def colours(table, strings, word):
    """All rows of letters that a string word leads to themselves, ascending."""
    check_table(table)
    check_strings(strings, word)
    for row, end in enumerate(_ends(table, strings, word)):
        if row == end:
            yield _letters_of(row, len(table), strings)


def _letters_of(row, size, strings):
    letters = ()
    rest = row
    for _ in range(strings):
        letters = (rest % size,) + letters
        rest = rest // size
    return letters


def _ends(table, strings, word):
    """The row to which a string word leads each row."""
    ends = list(range(count_rows(table, strings)))
    leads = {crossing: lead_of(table, strings, crossing) for crossing in sorted(set(word))}
    for crossing in word:
        lead = leads[crossing]
        ends = [lead[row] for row in ends]
    return ends


def lead_of(table, strings, crossing):
    """The row to which a crossing leads each row."""
    step = _step_of(table, strings, crossing)
    shifts = [(goal - pair) * step for pair, goal in enumerate(pair_goals(table, crossing))]
    return [row + shifts[pair] for row, pair in enumerate(crossing_pairs(table, strings, crossing))]


def pair_goals(table, crossing):
    """The number of the pair that each pair of letters becomes at a crossing of this sign."""
    goals = tuple([u * len(table) + v for row in table.rows for u, v in row])
    return goals if crossing > 0 else undone_move(goals)


def crossing_pairs(table, strings, crossing):
    """The number of the pair that stands at a crossing, for each row."""
    step = _step_of(table, strings, crossing)
    square = len(table) * len(table)
    return [row // step % square for row in range(count_rows(table, strings))]


def _step_of(table, strings, crossing):
    """By how much a row grows if the right one of the letters that cross grows by 1."""
    step = 1
    for _ in range(strings - 1 - abs(crossing)):
        step = step * len(table)
    return step


def colour_count(table, strings, word):
    """How many rows of letters a string word leads to themselves."""
    check_table(table)
    check_strings(strings, word)
    return _count_colours(table, strings, word)


def _count_colours(table, strings, word):
    return len([row for row, end in enumerate(_ends(table, strings, word)) if row == end])


def shadow_colour_count(rows, strings, word):
    """How many rows of names a string word leads to themselves."""
    if not are_shadow_rows(rows):
        raise InvalidTable("not the rows of a shadow")
    check_strings(strings, word)
    return _count_colours(table_of_shadow(rows), strings, word)


def braid_move(strings, word):
    """The move that leads each place to where the string ends that begins there."""
    check_strings(strings, word)
    standing = list(range(strings))
    for crossing in word:
        place = abs(crossing)
        standing[place - 1], standing[place] = standing[place], standing[place - 1]
    return undone_move(standing)


def rings_of(strings, word):
    """The rings, each as the ascending places at which its strings begin."""
    return tuple([tuple(sorted(cycle)) for cycle in cycles(braid_move(strings, word))])


def turned_round(strings, word, count):
    """The word whose first integers are put at its end."""
    check_strings(strings, word)
    check_within(count, 0, len(word))
    return word[count:] + word[:count]


def with_turn(strings, word, sign):
    """The number of strings and the word with one more string, and a turn put in."""
    check_strings(strings, word)
    if not is_integer(sign) or abs(sign) != 1:
        raise InvalidNumber(sign)
    if strings == MAX_STRINGS:
        raise TooMany(MAX_STRINGS)
    if len(word) == MAX_CROSSINGS:
        raise TooMany(MAX_CROSSINGS)
    return (strings + 1, word + (sign * strings,))
