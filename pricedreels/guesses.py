"""Guesses within a picture: what a block may show, by what was told ahead of it."""

from pricedreels.checks import is_within
from pricedreels.errors import BadKind, BadMode
from pricedreels.grids import check_block, check_plane, check_shape, columns_of, rows_of, spots_of

MODES = ("flat", "left", "up", "middle", "mean", "copy", "both", "still")


def modes_at(shape, block, kind):
    """The modes that can stand at the block for the kind, in their order."""
    check_shape(shape)
    check_block(shape, block)
    if not is_within(kind, 0, 2):
        raise BadKind("a kind is 0, 1 or 2")
    return modes_standing(block, kind)


def guess(shape, block, mode, plane):
    """The guesses of a mode within for the block's spots, in their order."""
    check_shape(shape)
    check_block(shape, block)
    check_mode(block, mode)
    check_plane(shape, plane)
    return guesses_of(shape, block, mode, plane)


def reads_within(shape, block, mode):
    """The spots, ascending, at which the guesses of the block look."""
    check_shape(shape)
    check_block(shape, block)
    check_mode(block, mode)
    if mode == "left":
        return left_edge(shape, block)
    if mode == "up":
        return upper_edge(shape, block)
    if mode == "middle":
        return [(block[0] - 1, block[1] - 1)] + upper_edge(shape, block) + left_edge(shape, block)
    if mode == "mean":
        return upper_edge(shape, block) + left_edge(shape, block)
    return []


def check_mode(block, mode):
    if mode not in modes_within(block):
        raise BadMode(mode)


def modes_within(block):
    """The modes within that can stand at the block, in their order."""
    top, left, _ = block
    found = ["flat"]
    if left > 0:
        found.append("left")
    if top > 0:
        found.append("up")
    if left > 0 and top > 0:
        found.append("middle")
    if left > 0 or top > 0:
        found.append("mean")
    return found


def modes_standing(block, kind):
    """As modes_at, for what was looked at."""
    found = modes_within(block)
    if kind > 0:
        found.append("copy")
    if kind > 1:
        found.append("both")
    if kind > 0:
        found.append("still")
    return found


def left_edge(shape, block):
    """The spots left of the block's spots, if there are any, from above."""
    return [(y, block[1] - 1) for y in rows_of(shape, block) if block[1] > 0]


def upper_edge(shape, block):
    """The spots above the block's spots, if there are any, from the left."""
    return [(block[0] - 1, x) for x in columns_of(shape, block) if block[0] > 0]


def guesses_of(shape, block, mode, rows):
    """As guess, for what was looked at; of the rows only what lies ahead of the block has to be there."""
    top, left, _ = block
    all_spots = spots_of(shape, block)
    if mode == "left":
        return tuple([rows[y][left - 1] for y, _ in all_spots])
    if mode == "up":
        return tuple([rows[top - 1][x] for _, x in all_spots])
    if mode == "middle":
        corner = rows[top - 1][left - 1]
        return tuple([sorted([rows[y][left - 1], rows[top - 1][x], corner])[1] for y, x in all_spots])
    if mode == "mean":
        edge = upper_edge(shape, block) + left_edge(shape, block)
        return (sum([rows[y][x] for y, x in edge]) // len(edge),) * len(all_spots)
    return (shape.middle,) * len(all_spots)
