"""Shadows: rows of letters with one sum, by which words of a fair table pass."""

from truenames.checks import check_within, is_row, is_same, is_square, is_told
from truenames.errors import InvalidTable, InvalidWord, Refused
from truenames.group.moves import is_move_of, joined_moves
from truenames.table.passing import MAX_LETTERS, Passing, check_table
from truenames.word.words import MAX_WORD, check_word, letters_of, names_of


def shadow_paper(rows):
    """The first right paper about rows, with the least letters."""
    _check_rows(rows)
    return ("shadow",) if _is_shadow(rows) else _broken_paper(rows)


def is_shadow_paper(rows, value):
    """Whether the value is a right paper about rows."""
    _check_rows(rows)
    for word in ("row", "three"):
        if is_told(value, word, 3, len(rows)):
            return _breaks_shadow(rows, word, value[1:])
    return is_same(value, ("shadow",)) and _is_shadow(rows)


def are_shadow_rows(value):
    """Whether any value is the rows of a shadow."""
    return is_square(value, 0, MAX_LETTERS) and _is_shadow(value)


def _check_rows(rows):
    if not is_square(rows, 0, MAX_LETTERS):
        raise InvalidTable("not 0 to 8 rows of as many letters")


def _check_shadow(rows):
    """Refuse rows that are no shadow, with their paper."""
    paper = shadow_paper(rows)
    if paper != ("shadow",):
        raise Refused(paper)


def _is_shadow(rows):
    """Whether each row is a move, and leads the row of each y to that of x > y."""
    if not all([is_move_of(row, len(rows)) for row in rows]):
        return False
    for row in rows:
        for y, goal in enumerate(row):
            if joined_moves(row, rows[y]) != joined_moves(rows[goal], row):
                return False
    return True


def _broken_paper(rows):
    """The first right paper about rows that are no shadow."""
    letters = range(len(rows))
    for word in ("row", "three"):
        for threes in [(x, y, z) for x in letters for y in letters for z in letters]:
            if _breaks_shadow(rows, word, threes):
                return (word,) + threes


def _breaks_shadow(rows, word, letters):
    x, y, z = letters
    if word == "row":
        return y < z and rows[x][y] == rows[x][z]
    return rows[x][rows[y][z]] != rows[rows[x][y]][rows[x][z]]


def shadow_of(table):
    """The rows of the shadow of a fair table."""
    check_table(table)
    # If y and z pass and become x and v, then x > y is where L of x leads v.
    ends = [{x: table.left[x][v] for x, v in row} for row in table.rows]
    return tuple([tuple([goals[x] for goals in ends]) for x in range(len(table))])


def table_of_shadow(rows):
    """The fair table in which x and y become y and y > x."""
    _check_shadow(rows)
    letters = range(len(rows))
    return Passing(tuple([tuple([(y, rows[y][x]) for y in letters]) for x in letters]))


def row_map(table, word):
    """The names of a word: where the joined L of all letters ahead lead each letter."""
    check_table(table)
    check_word(table, word)
    return names_of(table, word)


def row_back(table, names):
    """The word with these names."""
    check_table(table)
    check_word(table, names)
    return letters_of(table, names)


def shadow_passed(rows, names, index):
    """The names behind passing as shadow names at an index."""
    _check_rows(rows)
    if not isinstance(names, tuple) or len(names) > MAX_WORD:
        raise InvalidWord("not a tuple of few enough letters")
    if not is_row(names, len(names), len(rows)):
        raise InvalidWord("not a tuple of letters of the rows")
    check_within(index, 0, len(names) - 2)
    _check_shadow(rows)
    one, other = names[index], names[index + 1]
    return names[:index] + (other, rows[other][one]) + names[index + 2:]


def calm_paper(rows):
    """Whether a shadow is calm, or a letter x for which x > x is not x."""
    _check_shadow(rows)
    for letter, row in enumerate(rows):
        if row[letter] != letter:
            return ("letter", letter)
    return ("calm",)


def is_calm_paper(rows, value):
    """Whether the value is a right paper about calmness."""
    paper = calm_paper(rows)
    if is_told(value, "letter", 1, len(rows)):
        return rows[value[1]][value[1]] != value[1]
    return is_same(value, ("calm",)) and paper == ("calm",)
