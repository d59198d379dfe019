"""Guesses from other pictures: blocks that were moved, by halves of a sample."""

from pricedreels.checks import clipped, is_number, is_tuple_of, is_within
from pricedreels.errors import BadNumber, BadVector
from pricedreels.grids import check_block, check_plane, check_shape, spots_of

FARTHEST = 8


def sample_at(shape, plane, y, x):
    """The sample of the plane at a half place."""
    check_shape(shape)
    check_plane(shape, plane)
    if not is_number(y) or not is_number(x):
        raise BadNumber("a half place is a pair of numbers")
    return sample_between(shape, plane, y, x)


def copied(shape, block, vector, plane):
    """The copy from the plane by the vector, for the block's spots."""
    check_shape(shape)
    check_block(shape, block)
    check_vector(vector)
    check_plane(shape, plane)
    return copy_of(shape, block, vector, plane)


def both_copied(shape, block, vector, plane, other):
    """Both copies: from plane by the vector, from other by the vector turned about."""
    check_shape(shape)
    check_block(shape, block)
    check_vector(vector)
    check_plane(shape, plane)
    check_plane(shape, other)
    return both_of(shape, block, vector, plane, other)


def reads_copied(shape, block, vector):
    """The spots of the plane, ascending, at which the copy looks."""
    check_shape(shape)
    check_block(shape, block)
    check_vector(vector)
    dy, dx = vector
    return sorted({spot for y, x in spots_of(shape, block)
                   for spot in spots_between(shape, 2 * y + dy, 2 * x + dx)})


def check_vector(vector):
    if not is_vector(vector, FARTHEST):
        raise BadVector("a vector is a pair of numbers from -8 to 8")


def is_vector(thing, reach):
    """Whether any value is a pair of numbers from -reach to reach."""
    return is_tuple_of(thing, 2) and all([is_within(part, -reach, reach) for part in thing])


def around(half, many):
    """The indexes, one or two, of many rows or columns between which a half place lies."""
    return [clipped(at, 0, many - 1) for at in range(half // 2, (half + 1) // 2 + 1)]


def spots_between(shape, y, x):
    """The spots, one, two or four, from which the sample at a half place is made."""
    return [(row, column) for row in around(y, shape.height) for column in around(x, shape.width)]


def sample_between(shape, rows, y, x):
    """As sample_at, for what was looked at."""
    parts = [rows[row][column] for row, column in spots_between(shape, y, x)]
    return sum(parts) // len(parts)


def copy_of(shape, block, vector, rows):
    """As copied, for what was looked at."""
    dy, dx = vector
    return tuple([sample_between(shape, rows, 2 * y + dy, 2 * x + dx) for y, x in spots_of(shape, block)])


def both_of(shape, block, vector, rows, others):
    """As both_copied, for what was looked at."""
    dy, dx = vector
    firsts = copy_of(shape, block, vector, rows)
    seconds = copy_of(shape, block, (-dy, -dx), others)
    return tuple([(first + second) // 2 for first, second in zip(firsts, seconds)])


def moved(shape, vector, rows):
    """The copy by the vector for all spots of the shape, in rows."""
    dy, dx = vector
    across = [around(2 * x + dx, shape.width) for x in range(shape.width)]
    found = []
    for y in range(shape.height):
        lines = [rows[row] for row in around(2 * y + dy, shape.height)]
        found.append([sum([line[column] for line in lines for column in columns]) // (len(lines) * len(columns))
                      for columns in across])
    return found


def vectors_of(reach):
    """All vectors of the reach, ascending."""
    numbers = list(range(-reach, reach + 1))
    return [(dy, dx) for dy in numbers for dx in numbers]
