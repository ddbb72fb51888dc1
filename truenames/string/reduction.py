"""Tables of integers that are led to a diagonal by their rows and columns."""

from math import gcd, lcm


def led_to_diagonal(rows, makers, width, modulus):
    """Rows with 0 beside the diagonal of the first columns, and the makers behind them.

    All is counted by the modulus. Rows are changed as wholes, so what stands behind the
    first columns tells how they came. Columns are changed together with those of the
    makers, which tell how the columns came.
    """
    table = [[entry % modulus for entry in row] for row in rows]
    below = [list(row) for row in makers]
    for place in range(min(len(table), width)):
        if not _bring_pivot(table, below, place, width):
            return (table, below)
        _clear_column(table, place, modulus)
        while any(table[place][place + 1:width]):
            _clear_row(table, below, place, width, modulus)
            _clear_column(table, place, modulus)
    return (table, below)


def _bring_pivot(table, below, place, width):
    """Exchange rows and columns until a place of the diagonal is not 0, if that can be."""
    for column in range(place, width):
        for index in range(place, len(table)):
            if table[index][column] != 0:
                table[place], table[index] = table[index], table[place]
                for row in table + below:
                    row[place], row[column] = row[column], row[place]
                return True
    return False


def _clear_column(table, place, modulus):
    """Make all entries behind a place of the diagonal, in its column, to 0."""
    # Ahead of the diagonal these rows have 0 alone.
    zeros = [0] * place
    for index in range(place + 1, len(table)):
        if table[index][place] != 0:
            first, second = table[place][place:], table[index][place:]
            (a, b), (c, d) = _combination(first[0], second[0])
            table[index] = zeros + _combined(first, second, c, d, modulus)
            if (a, b) != (1, 0):
                table[place] = zeros + _combined(first, second, a, b, modulus)


def _combined(first, second, one, other, modulus):
    return [(one * entry + other * further) % modulus for entry, further in zip(first, second)]


def _clear_row(table, below, place, width, modulus):
    """Make all entries behind a place of the diagonal, in its row, to 0."""
    for column in range(place + 1, width):
        if table[place][column] != 0:
            (a, b), (c, d) = _combination(table[place][place], table[place][column])
            for row in table[place:] + below:
                one, other = row[place], row[column]
                row[place] = (a * one + b * other) % modulus
                row[column] = (c * one + d * other) % modulus


def _combination(one, other):
    """Two pairs of factors, of which sums make the common divisor of two integers, and 0."""
    if other % one == 0:
        return ((1, 0), (-(other // one), 1))
    ahead, behind = (one, 1, 0), (other, 0, 1)
    while behind[0] != 0:
        many = ahead[0] // behind[0]
        rest = tuple([entry - many * behind[index] for index, entry in enumerate(ahead)])
        ahead, behind = behind, rest
    return ((ahead[1], ahead[2]), (behind[1], behind[2]))


def count_solutions(rows, width, modulus):
    """How many tuples of integers below the modulus make each row to 0."""
    table, _ = led_to_diagonal(rows, (), width, modulus)
    many = 1
    for place in range(width):
        many = many * (gcd(table[place][place], modulus) if place < len(table) else modulus)
    return many


def rank_and_minor(rows):
    """How many integers are on the diagonal, and a multiple of their product."""
    table = [list(row) for row in rows]
    rank = 0
    minor = 1
    for column in range(len(table[0]) if table else 0):
        fitting = [index for index in range(rank, len(table)) if table[index][column] != 0]
        if fitting:
            table[rank], table[fitting[0]] = table[fitting[0]], table[rank]
            pivot = table[rank]
            for index in range(rank + 1, len(table)):
                table[index] = _without_column(table[index], pivot, column, minor)
            minor = pivot[column]
            rank += 1
    return (rank, abs(minor))


def _without_column(row, pivot, column, minor):
    """A row with 0 in a column: divided by the pivot ahead, which leaves no rest."""
    return [(pivot[column] * entry - row[column] * further) // minor for entry, further in zip(row, pivot)]


def dividing_chain(numbers):
    """Integers above 0 with the same products of common divisors, each dividing the next one."""
    chain = list(numbers)
    for index in range(len(chain)):
        for further in range(index + 1, len(chain)):
            one, other = chain[index], chain[further]
            chain[index], chain[further] = gcd(one, other), lcm(one, other)
    return chain
