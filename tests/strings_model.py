"""Closed strings reckoned in another way than the program does: row by row, crossing by crossing."""

import itertools
import random


def drawn_strings(seed, many, strings, lengths):
    """String words with crossings of both signs, drawn again alike for each seed."""
    source = random.Random(seed)
    if strings == 1:
        return [()]
    return [
        tuple(source.choice((1, -1)) * source.randrange(1, strings) for _ in range(source.choice(lengths)))
        for _ in range(many)
    ]


def pairs_back(table):
    """For each pair the only pair that becomes it by passing."""
    letters = range(len(table))
    return {table.rows[x][y]: (x, y) for x in letters for y in letters}


def crossed_row(table, row, crossing, back):
    """The row behind a crossing, and the pair that passes, or comes back, with its sign."""
    at = abs(crossing)
    pair = row[at - 1:at + 1]
    if crossing > 0:
        return row[:at - 1] + table.rows[pair[0]][pair[1]] + row[at + 1:], (pair, 1)
    return row[:at - 1] + back[pair] + row[at + 1:], (back[pair], -1)


def colours_by_rows(table, strings, word):
    """All colours, each with the pairs that pass in it and their signs."""
    back = pairs_back(table)
    found = []
    for start in itertools.product(range(len(table)), repeat=strings):
        row, passings = start, []
        for crossing in word:
            row, passing = crossed_row(table, row, crossing, back)
            passings.append(passing)
        if row == start:
            found.append((start, passings))
    return found


def ends_by_strings(strings, word):
    """For each place where the string ends that begins there, followed upwards."""
    ends = []
    for start in range(strings):
        place = start
        for crossing in word:
            if place == abs(crossing):
                place -= 1
            elif place == abs(crossing) - 1:
                place += 1
        ends.append(place)
    return tuple(ends)


def rings_by_ends(ends):
    rings = set()
    for start in range(len(ends)):
        ring, place = {start}, ends[start]
        while place != start:
            ring.add(place)
            place = ends[place]
        rings.add(tuple(sorted(ring)))
    return tuple(sorted(rings))
