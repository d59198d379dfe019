"""What several test files use: values of all kinds, shapes and planes, and tests of errors."""

import copy
import itertools

from pricedreels.grids import Shape
from pricedreels.heads import Head

BOOK = (1, 2, 3, 4, 5, 0, 0, 0)
SHAPE = Shape(3, 5, 0, 9)
HEAD = Head(0, 0, 0, 0, BOOK)

# No number is among these, nor a string of bits, nor anything else that is asked for.
NOTHINGS = [True, False, None, "x", "12", [], (), {}, [1], (1,), {1: 1}, ["flat"], HEAD, [None], ((True,),)]

# Shapes of many sizes: with one cell, cut by the edge, with several roots.
SIZES = [(1, 1), (1, 2), (2, 1), (2, 2), (1, 3), (3, 1), (2, 3), (3, 3), (4, 4), (3, 5), (5, 3), (5, 6), (7, 8),
         (8, 8), (8, 9), (9, 1), (1, 9), (9, 10), (11, 13), (16, 1), (1, 16), (16, 16)]


def wrong_numbers(low, high):
    """Values that are no numbers from low to high."""
    return NOTHINGS + [SHAPE, low - 1, high + 1, low - 10 ** 11, high + 10 ** 11, str(low), (low,), [high]]


def plane_of(shape, rng):
    """A plane of the shape, of numbers that come by chance, the ends more often than others."""
    def number():
        return rng.choice([shape.low, shape.high] + [rng.randint(shape.low, shape.high)] * 4)
    return tuple(tuple(number() for _ in range(shape.width)) for _ in range(shape.height))


def flat(shape, number):
    """The plane with this number everywhere."""
    return ((number,) * shape.width,) * shape.height


def with_sample(plane, spot, number):
    """The plane with another number at one spot."""
    rows = [list(row) for row in plane]
    rows[spot[0]][spot[1]] = number
    return tuple(tuple(row) for row in rows)


def all_spots(shape):
    return [(y, x) for y in range(shape.height) for x in range(shape.width)]


def all_blocks(shape):
    """All blocks of the shape, plainly by what a block is."""
    return [(top, left, size) for size in (8, 4, 2) for top in range(0, 16, size) for left in range(0, 16, size)
            if top < shape.height and left < shape.width]


def wrong_shapes():
    return [None, True, 0, "shape", (2, 3, 0, 9), [2, 3, 0, 9], {}, HEAD]


def wrong_planes(shape):
    """Values that are no planes of the shape, most of them by one part."""
    rows = ((shape.low,) * shape.width,) * shape.height
    spot = (shape.height - 1, shape.width - 1)
    parts = [with_sample(rows, spot, part) for part in
             (shape.low - 1, shape.high + 1, True, False, None, "0", (0,), [0], shape)]
    return parts + [
        None, True, 0, "plane", {}, [], (), shape, HEAD, list(rows), [list(row) for row in rows],
        tuple(list(row) for row in rows), rows + (rows[0],), rows[1:], tuple(row + (shape.low,) for row in rows),
        tuple(row[1:] for row in rows), rows[:-1] + (rows[-1] + (shape.low,),), rows[:-1] + (rows[-1][1:],),
        rows[:-1] + (None,), rows[:-1] + ("0" * shape.width,), rows[:-1] + (list(rows[-1]),), {rows: rows},
        (None,) + rows[1:], (shape.low,) * shape.height,
    ]


def wrong_blocks(shape):
    """Values that are no blocks of the shape."""
    below, beside = shape.height + (-shape.height) % 8, shape.width + (-shape.width) % 8
    return [None, True, 0, "block", {}, [], (), shape, HEAD, [0, 0, 8], (0, 0), (0, 0, 2, 2), (0, 0, 1), (0, 0, 0),
            (0, 0, 16), (0, 0, 3), (0, 0, 6), (0, 0, -2), (1, 0, 2), (0, 1, 2), (2, 0, 4), (0, 2, 4), (4, 0, 8),
            (0, 4, 8), (-2, 0, 2), (0, -2, 2), (-8, 0, 8), (0, -8, 8), (below, 0, 8), (0, beside, 8), (below, 0, 2),
            (0, beside, 2), (False, 0, 2), (0, False, 2), (0, 0, True), (None, 0, 2), (0, None, 2), (0, 0, None),
            ("0", 0, 2), (0, "0", 2), (0, 0, "2"), ((0,), 0, 2), (0, 0, [2]), {(0, 0, 8): 1}]


def raises(case, error, call, args, **attributes):
    """The call raises just this error, with just these attributes."""
    with case.assertRaises(error, msg=repr(args)) as caught:
        call(*args)
    case.assertIs(caught.exception.__class__, error, repr(args))
    for name, value in attributes.items():
        told = getattr(caught.exception, name)
        case.assertEqual(told, value, repr(args))
        case.assertIs(told.__class__, value.__class__, repr(args))


def refuses(case, call, right, checks):
    """Each parameter is refused if it is wrong, and the first one in the order of the checks is told.

    right are arguments that the call takes. checks are, in the order in which they are made,
    tuples of the index of an argument, the wrong values for it, the error and its attributes,
    for "mode" the value itself.
    """
    call(*right)
    for at, (index, wrongs, error, *more) in enumerate(checks):
        for wrong in wrongs:
            names = dict(more[0]) if more else {}
            if names.get("mode") == "itself":
                names["mode"] = wrong
            args = list(right)
            args[index] = wrong
            kept = copy.deepcopy(args)
            raises(case, error, call, args, **names)
            case.assertEqual(kept, args)
            for later, others, *_ in checks[at + 1:]:
                if later != index:
                    args[later] = others[0]
                    raises(case, error, call, args, **names)


def rests_of(low, high, many):
    """All tuples of many numbers from low to high."""
    return itertools.product(range(low, high + 1), repeat=many)
