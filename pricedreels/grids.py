"""Grids: shapes, their planes, and the blocks by which pictures are told."""

from pricedreels.checks import are_between, is_rows, is_tuple_of, is_within
from pricedreels.errors import BadBlock, BadNumber, BadPlace, BadPlane, BadShape, BadWay

LOWEST = -512
HIGHEST = 511
MOST_SPOTS = 16
SIZES = (8, 4, 2)


class Shape:
    """The height and the width of planes, and the numbers from low to high that stand in them."""

    def __init__(self, height, width, low, high):
        if not is_within(height, 1, MOST_SPOTS):
            raise BadShape("height")
        if not is_within(width, 1, MOST_SPOTS):
            raise BadShape("width")
        if not is_within(low, LOWEST, HIGHEST):
            raise BadShape("low")
        if not is_within(high, low, HIGHEST):
            raise BadShape("high")
        self.height = height
        self.width = width
        self.low = low
        self.high = high
        self.middle = (low + high) // 2

    def __eq__(self, other):
        return (isinstance(other, Shape) and self.height == other.height and self.width == other.width
                and self.low == other.low and self.high == other.high)


def is_plane(shape, thing):
    """Whether any value is a plane of the shape."""
    check_shape(shape)
    return fits_shape(shape, thing)


def flat_plane(shape, number):
    """The plane with this number everywhere."""
    check_shape(shape)
    if not is_within(number, shape.low, shape.high):
        raise BadNumber("a plane has numbers from low to high")
    return ((number,) * shape.width,) * shape.height


def turned(plane, way):
    """The plane turned sideways, upside or over the corner."""
    if not is_rows(plane) or not are_between(plane, LOWEST, HIGHEST):
        raise BadPlane("a plane is a tuple of rows of numbers, all of the same length")
    if way == "sideways":
        return tuple([row[::-1] for row in plane])
    if way == "upside":
        return plane[::-1]
    if way == "corner":
        return tuple([tuple([row[x] for row in plane]) for x in range(len(plane[0]))])
    raise BadWay("planes are turned sideways, upside or corner")


def is_block(shape, thing):
    """Whether any value is a block of the shape."""
    check_shape(shape)
    return is_block_of(shape, thing)


def spots(shape, block):
    """The spots of the block, row by row."""
    check_shape(shape)
    check_block(shape, block)
    return spots_of(shape, block)


def roots(shape):
    """The blocks of size 8, ascending."""
    check_shape(shape)
    return roots_of(shape)


def cells(shape):
    """The blocks of size 2, in the order in which the roots come to them."""
    check_shape(shape)
    return cells_of(shape)


def quarters(shape, block):
    """The quarters of the block that are of the shape."""
    check_shape(shape)
    check_block(shape, block)
    return quarters_of(shape, block)


def place_of(shape, block):
    """The place of the block, and its end."""
    check_shape(shape)
    check_block(shape, block)
    return place_and_end(shape, block)


def blocks_at(shape, place):
    """All blocks of this place, the largest first."""
    check_shape(shape)
    all_cells = cells_of(shape)
    if not is_within(place, 0, len(all_cells) - 1):
        raise BadPlace("a place is the index of a cell")
    top, left, _ = all_cells[place]
    return [(top, left, size) for size in sizes_at(top, left)]


def is_cover(shape, thing):
    """Whether any value is a cover of the shape."""
    check_shape(shape)
    return isinstance(thing, (list, tuple)) and are_cover(shape, thing)


def many_covers(shape):
    """How many covers the shape has."""
    check_shape(shape)
    return many_together(shape, roots_of(shape))


def check_shape(shape):
    if not isinstance(shape, Shape):
        raise BadShape(None)


def check_plane(shape, plane):
    if not fits_shape(shape, plane):
        raise BadPlane("a plane is a tuple of height tuples of width numbers from low to high")


def check_block(shape, block):
    if not is_block_of(shape, block):
        raise BadBlock("a block is a triple of a top, a left and a size, within the shape")


def fits_shape(shape, thing):
    """As is_plane, for a shape that was looked at."""
    return (is_rows(thing) and len(thing) == shape.height and len(thing[0]) == shape.width
            and are_between(thing, shape.low, shape.high))


def is_block_of(shape, thing):
    """As is_block, for a shape that was looked at."""
    if not is_tuple_of(thing, 3):
        return False
    top, left, size = thing
    if not is_within(size, 2, 8) or size not in SIZES:
        return False
    if not is_within(top, 0, shape.height - 1) or not is_within(left, 0, shape.width - 1):
        return False
    return top % size == 0 and left % size == 0


def rows_of(shape, block):
    """The rows in which the block has spots."""
    return list(range(block[0], min(block[0] + block[2], shape.height)))


def columns_of(shape, block):
    """The columns in which the block has spots."""
    return list(range(block[1], min(block[1] + block[2], shape.width)))


def spots_of(shape, block):
    """As spots, for a block that was looked at."""
    return [(y, x) for y in rows_of(shape, block) for x in columns_of(shape, block)]


def roots_of(shape):
    """As roots, for a shape that was looked at."""
    return [(top, left, 8) for top in range(0, shape.height, 8) for left in range(0, shape.width, 8)]


def quarters_of(shape, block):
    """As quarters, for a block that was looked at."""
    top, left, size = block
    if size == 2:
        return []
    half = size // 2
    return [(y, x, half) for y in (top, top + half) for x in (left, left + half)
            if y < shape.height and x < shape.width]


def cells_in(shape, block):
    """The cells that lie in the block, in their order."""
    if block[2] == 2:
        return [block]
    return [cell for quarter in quarters_of(shape, block) for cell in cells_in(shape, quarter)]


def cells_of(shape):
    """As cells, for a shape that was looked at."""
    return [cell for root in roots_of(shape) for cell in cells_in(shape, root)]


def many_cells(shape, block):
    """How many cells lie in the block."""
    return (len(rows_of(shape, block)) + 1) // 2 * ((len(columns_of(shape, block)) + 1) // 2)


def place_and_end(shape, block):
    """As place_of, for a block that was looked at."""
    place = cells_of(shape).index((block[0], block[1], 2))
    return place, place + many_cells(shape, block)


def sizes_at(top, left):
    """The sizes of the blocks with this corner, the largest first."""
    return [size for size in SIZES if top % size == 0 and left % size == 0]


def are_cover(shape, blocks):
    """Whether the blocks, any values, are a cover."""
    all_cells = cells_of(shape)
    reached = 0
    for block in blocks:
        if reached == len(all_cells) or not is_block_of(shape, block):
            return False
        # A block has this place exactly if the cell is its first one, at its corner.
        if all_cells[reached] != (block[0], block[1], 2):
            return False
        reached += many_cells(shape, block)
    return reached == len(all_cells)


def many_together(shape, blocks):
    """In how many ways the blocks can be taken for their quarters, again and again."""
    ways = 1
    for block in blocks:
        parts = quarters_of(shape, block)
        ways = ways * (1 + many_together(shape, parts) if parts else 1)
    return ways
