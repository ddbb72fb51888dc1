"""Rows of products: what groups are made of, and what can be read off them."""

from truenames.group.moves import joined_moves, undone_move

# The pairs of i, j, k (here 1, 2, 3) whose product is the third one, not its negative.
FORWARD = ((1, 2), (2, 3), (3, 1))


def unit_of(rows):
    """The thing that changes nothing, or None."""
    things = tuple(range(len(rows)))
    for thing in things:
        if rows[thing] == things and tuple([row[thing] for row in rows]) == things:
            return thing
    return None


def back_of(rows, unit, thing):
    """The least thing that takes a thing back, or None."""
    for other, made in enumerate(rows[thing]):
        if made == unit and rows[other][thing] == unit:
            return other
    return None


def backs_of(rows, unit):
    """What takes each thing back."""
    return tuple([back_of(rows, unit, thing) for thing in range(len(rows))])


def broken_three(rows):
    """The least three things whose product hangs on what is multiplied first, or None."""
    for a, row in enumerate(rows):
        for b, ab in enumerate(row):
            for c, bc in enumerate(rows[b]):
                if rows[ab][c] != row[bc]:
                    return (a, b, c)
    return None


def centre_of(rows):
    """The things whose products with all things are the same either way round."""
    columns = [tuple([row[thing] for row in rows]) for thing in range(len(rows))]
    return tuple([thing for thing, row in enumerate(rows) if row == columns[thing]])


def order_in(rows, unit, thing):
    """The least power above 0 of a thing that is the unit."""
    power = thing
    order = 1
    while power != unit:
        power = rows[power][thing]
        order += 1
    return order


def least_part(rows, unit, things):
    """The least part with these things, ascending."""
    # In a finite group products alone reach what takes a thing back, too.
    found = [unit]
    reached = 0
    while reached < len(found):
        for thing in things:
            made = rows[found[reached]][thing]
            if made not in found:
                found.append(made)
        reached += 1
    return tuple(sorted(found))


def keeps_products(rows, others, images):
    """Whether what each thing is led to makes what their products are led to."""
    for a, row in enumerate(rows):
        for b, made in enumerate(row):
            if images[made] != others[images[a]][images[b]]:
                return False
    return True


def cyclic_rows(size):
    """The rows of the sums modulo the size."""
    return tuple([tuple([(a + b) % size for b in range(size)]) for a in range(size)])


def polygon_rows(size):
    """The rows of the turns of a polygon, each with a mirroring behind it."""
    return tuple([
        tuple([_polygon_product(size, a, b) for b in range(2 * size)])
        for a in range(2 * size)
    ])


def _polygon_product(size, a, b):
    turn = a // 2 + b // 2
    if a % 2 == 1:
        turn = a // 2 - b // 2
    return 2 * (turn % size) + (a + b) % 2


def quaternion_rows():
    """The rows of 1, i, j, k, each with its negative behind it."""
    return tuple([tuple([_quaternion_product(a, b) for b in range(8)]) for a in range(8)])


def _quaternion_product(a, b):
    one, other = a // 2, b // 2
    sign = a + b
    if one != 0 and other != 0 and (one, other) not in FORWARD:
        sign += 1
    # With 1, i, j, k as 0, 1, 2, 3, the bits of two of them make those of the product.
    return 2 * (one ^ other) + sign % 2


def move_rows(moves):
    """The rows of joined moves, for moves that are closed under joining."""
    numbers = {move: thing for thing, move in enumerate(moves)}
    return tuple([tuple([numbers[joined_moves(one, other)] for other in moves]) for one in moves])


def pair_rows(rows, others):
    """The rows of pairs of things of two groups, the second ones changing first."""
    size = len(others)
    return tuple([
        tuple([made * size + other for made in row for other in other_row])
        for row in rows
        for other_row in others
    ])


def renamed_rows(rows, order):
    """The rows of the group whose thing i is the thing order[i] of this one."""
    names = undone_move(order)
    return tuple([tuple([names[rows[a][b]] for b in order]) for a in order])
