"""Weights of passings: fair ones, those that come of letters, and sums of closed strings."""

from math import gcd

from truenames.checks import check_within, is_integer, is_row, is_same, is_told
from truenames.errors import InvalidOperation, InvalidWeights
from truenames.string.closed import check_strings, count_rows, crossing_pairs, lead_of, pair_goals
from truenames.string.reduction import count_solutions, dividing_chain, led_to_diagonal, rank_and_minor
from truenames.table.passing import check_table

MAX_MODULUS = 30
MAX_DIAGONAL = 24


def _check_weights(table, modulus, weights):
    _check_modulus(table, modulus)
    if not _are_weights(table, modulus, weights):
        raise InvalidWeights("not rows of integers below the modulus")


def _check_modulus(table, modulus):
    check_table(table)
    check_within(modulus, 2, MAX_MODULUS)


def _are_weights(table, modulus, value):
    if not isinstance(value, tuple) or len(value) != len(table):
        return False
    return all([is_row(row, len(table), modulus) for row in value])


def weights_paper(table, modulus, weights):
    """Whether weights are fair, or three letters for which their sums are unlike."""
    _check_weights(table, modulus, weights)
    letters = range(len(table))
    for three in [(x, y, z) for x in letters for y in letters for z in letters]:
        if _breaks_fair(table, modulus, weights, three):
            return ("three",) + three
    return ("fair",)


def is_weights_paper(table, modulus, weights, value):
    """Whether the value is a right paper about whether weights are fair."""
    _check_weights(table, modulus, weights)
    if is_told(value, "three", 3, len(table)):
        return _breaks_fair(table, modulus, weights, value[1:])
    return is_same(value, ("fair",)) and weights_paper(table, modulus, weights) == ("fair",)


def _breaks_fair(table, modulus, weights, letters):
    lefts, rights = _passings(table.rows, letters)
    one = sum([weights[x][y] for x, y in lefts])
    return (one - sum([weights[x][y] for x, y in rights])) % modulus != 0


def _passings(rows, letters):
    """The pairs that pass at the places 0, 1, 0, and those at the places 1, 0, 1."""
    x, y, z = letters
    left, middle = rows[x][y]
    lefts = ((x, y), (middle, z), (left, rows[middle][z][0]))
    middle, right = rows[y][z]
    return (lefts, ((y, z), (x, middle), (rows[x][middle][1], right)))


def of_letters(table, modulus, numbers):
    """The weights that come of a number for each letter."""
    _check_modulus(table, modulus)
    if not is_row(numbers, len(table), modulus):
        raise InvalidWeights("not a number below the modulus for each letter")
    return _of_letters(table, modulus, numbers)


def _of_letters(table, modulus, numbers):
    return tuple([
        tuple([
            (numbers[u] + numbers[v] - numbers[x] - numbers[y]) % modulus
            for y, (u, v) in enumerate(row)
        ])
        for x, row in enumerate(table.rows)
    ])


def source_paper(table, modulus, weights):
    """Numbers of letters of which weights come, or a bar that shows that there are none."""
    _check_weights(table, modulus, weights)
    size = len(table)
    flat = [weight for row in weights for weight in row]
    units = [_unit(letter, size) for letter in range(size)]
    rows = [counts + _unit(pair, len(flat)) for pair, counts in enumerate(_letter_rows(table))]
    led, makers = led_to_diagonal(rows, units, size, modulus)
    found = []
    for place, row in enumerate(led):
        factors = row[size:]
        goal = _product(factors, flat) % modulus
        entry = row[place] if place < size else 0
        divisor = gcd(entry, modulus)
        if goal % divisor != 0:
            return ("bar", _squared([modulus // divisor * factor % modulus for factor in factors], size))
        if place < size:
            found.append(_quotient(entry, goal, modulus))
    return ("letters", tuple([_product(maker, found) % modulus for maker in makers]))


def _unit(place, size):
    return [1 if index == place else 0 for index in range(size)]


def _product(factors, numbers):
    """The sum of the numbers, each multiplied by its factor."""
    return sum([factor * numbers[index] for index, factor in enumerate(factors)])


def _letter_rows(table):
    """For each pair how often each letter counts in the weights of letters."""
    rows = []
    for x, row in enumerate(table.rows):
        for y, (u, v) in enumerate(row):
            counts = [0] * len(table)
            counts[u] += 1
            counts[v] += 1
            counts[x] -= 1
            counts[y] -= 1
            rows.append(counts)
    return rows


def _quotient(entry, goal, modulus):
    """The least number that the entry multiplies to the goal."""
    return min([number for number in range(modulus) if entry * number % modulus == goal])


def _squared(flat, size):
    return tuple([tuple(flat[start:start + size]) for start in range(0, len(flat), size)])


def is_source_paper(table, modulus, weights, value):
    """Whether the value is a right paper about where weights come from."""
    _check_weights(table, modulus, weights)
    if not isinstance(value, tuple) or len(value) != 2:
        return False
    word, shown = value
    if is_same(word, "letters") and is_row(shown, len(table), modulus):
        return _of_letters(table, modulus, shown) == weights
    if is_same(word, "bar") and _are_weights(table, modulus, shown):
        return _is_bar(table, modulus, weights, shown)
    return False


def _is_bar(table, modulus, weights, rows):
    letters = range(len(table))
    ones = [_of_letters(table, modulus, _unit(letter, len(table))) for letter in letters]
    if any([_multiplied(one, rows) % modulus for one in ones]):
        return False
    return _multiplied(weights, rows) % modulus != 0


def _multiplied(weights, rows):
    return sum([weight * rows[x][y] for x, row in enumerate(weights) for y, weight in enumerate(row)])


def weight_counts(table, modulus):
    """How many weights are fair, and how many of them come of letters."""
    _check_modulus(table, modulus)
    size = len(table)
    fair = count_solutions(_fair_rows(table), size * size, modulus)
    many = 1
    for _ in range(size):
        many = many * modulus
    return (fair, many // count_solutions(_letter_rows(table), size, modulus))


def _fair_rows(table):
    """The unlike rows of factors that fair weights make to 0, ascending."""
    size = len(table)
    letters = range(size)
    rows = {}
    for three in [(x, y, z) for x in letters for y in letters for z in letters]:
        row = [0] * (size * size)
        lefts, rights = _passings(table.rows, three)
        for x, y in lefts:
            row[x * size + y] += 1
        for x, y in rights:
            row[x * size + y] -= 1
        rows[tuple(row)] = True
    return sorted(list(rows))


def diagonal_of(rows):
    """The diagonal of a table of integers, each of which divides the next one."""
    if not _is_oblong(rows):
        raise InvalidOperation("not few enough rows of integers, all of one length")
    rank, minor = rank_and_minor(rows)
    if rank == 0:
        return ()
    width = len(rows[0])
    # The integers divide the minor, so it is enough to count modulo it.
    led, _ = led_to_diagonal(rows, (), width, minor)
    places = range(min(len(led), width))
    return tuple(dividing_chain([gcd(led[place][place], minor) for place in places])[:rank])


def _is_oblong(value):
    if not isinstance(value, tuple) or len(value) > MAX_DIAGONAL:
        return False
    for row in value:
        if not isinstance(row, tuple) or len(row) > MAX_DIAGONAL or len(row) != len(value[0]):
            return False
        if not all([is_integer(entry) for entry in row]):
            return False
    return True


def string_sums(table, modulus, weights, strings, word):
    """How many colours of a string word have each sum of weights."""
    _check_weights(table, modulus, weights)
    check_strings(strings, word)
    flat = [weight for row in weights for weight in row]
    ends = list(range(count_rows(table, strings)))
    sums = [0 for _ in ends]
    crossings = sorted(set(word))
    leads = {crossing: lead_of(table, strings, crossing) for crossing in crossings}
    gains = {crossing: _gains(table, strings, crossing, flat) for crossing in crossings}
    for crossing in word:
        lead, gain = leads[crossing], gains[crossing]
        sums = [total + gain[ends[row]] for row, total in enumerate(sums)]
        ends = [lead[row] for row in ends]
    found = [total % modulus for row, total in enumerate(sums) if ends[row] == row]
    return {total: found.count(total) for total in sorted(set(found))}


def _gains(table, strings, crossing, flat):
    """The weight of a crossing for each row of letters; taken away if they pass back."""
    gains = flat
    if crossing < 0:
        gains = [-flat[goal] for goal in pair_goals(table, crossing)]
    return [gains[pair] for pair in crossing_pairs(table, strings, crossing)]
