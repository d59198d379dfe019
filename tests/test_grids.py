import itertools
import random
import unittest

from helpers import (HEAD, NOTHINGS, SHAPE, SIZES, all_blocks, plane_of, raises, refuses, with_sample, wrong_blocks,
                     wrong_numbers, wrong_planes, wrong_shapes)
from pricedreels.errors import BadBlock, BadNumber, BadPlace, BadPlane, BadShape, BadWay
from pricedreels.grids import (Shape, blocks_at, cells, flat_plane, is_block, is_cover, is_plane, many_covers, place_of,
                               quarters, roots, spots, turned)

NO_SHAPE = (0, wrong_shapes(), BadShape, {"part": None})


def sized(height, width):
    return Shape(height, width, -3, 8)


def plain_quarters(shape, block):
    top, left, size = block
    if size == 2:
        return []
    h = size // 2
    four = [(top, left, h), (top, left + h, h), (top + h, left, h), (top + h, left + h, h)]
    return [(y, x, s) for y, x, s in four if y < shape.height and x < shape.width]


def plain_cells(shape):
    waiting = [block for block in sorted(all_blocks(shape)) if block[2] == 8]
    found = []
    while waiting:
        block = waiting.pop(0)
        if block[2] == 2:
            found.append(block)
        waiting = plain_quarters(shape, block) + waiting
    return found


def lies_in(cell, block):
    return block[0] <= cell[0] < block[0] + block[2] and block[1] <= cell[1] < block[1] + block[2]


def plain_places(shape, block):
    inside = [index for index, cell in enumerate(plain_cells(shape)) if lies_in(cell, block)]
    return inside[0], inside[0] + len(inside)


def plain_covers(shape):
    """All that comes of the roots when some blocks are taken for their quarters, again and again."""
    def ways(block):
        parts = plain_quarters(shape, block)
        found = [(block,)]
        if parts:
            found += [sum(row, ()) for row in itertools.product(*[ways(part) for part in parts])]
        return found
    first = [block for block in sorted(all_blocks(shape)) if block[2] == 8]
    return [sum(row, ()) for row in itertools.product(*[ways(block) for block in first])]


class Shapes(unittest.TestCase):
    def test_attributes(self):
        for height, width, low, high, middle in [
                (1, 16, -512, 511, -1), (16, 1, 0, 9, 4), (2, 3, -3, 0, -2), (5, 5, 511, 511, 511), (7, 2, -512, -512, -512),
                (3, 4, -1, 0, -1), (8, 8, 0, 0, 0)]:
            shape = Shape(height, width, low, high)
            self.assertEqual((shape.height, shape.width, shape.low, shape.high, shape.middle),
                             (height, width, low, high, middle))
            named = Shape(high=high, low=low, width=width, height=height)
            self.assertEqual(named, shape)

    def test_equality(self):
        shape = Shape(2, 3, 0, 9)
        self.assertTrue(shape == Shape(2, 3, 0, 9))
        self.assertFalse(shape != Shape(2, 3, 0, 9))
        for other in [Shape(3, 3, 0, 9), Shape(2, 2, 0, 9), Shape(2, 3, 1, 9), Shape(2, 3, -1, 9), Shape(2, 3, 0, 8),
                      Shape(3, 2, 0, 9), Shape(2, 3, 1, 8)]:
            self.assertFalse(shape == other)
            self.assertTrue(shape != other)
        for thing in NOTHINGS + [(2, 3, 0, 9), [2, 3, 0, 9], HEAD, 4, "shape"]:
            self.assertFalse(shape == thing)
            self.assertFalse(thing == shape)
            self.assertTrue(shape != thing)

    def test_wrong_parts(self):
        refuses(self, Shape, [1, 1, -512, -512], [
            (0, wrong_numbers(1, 16), BadShape, {"part": "height"}),
            (1, wrong_numbers(1, 16), BadShape, {"part": "width"}),
            (2, wrong_numbers(-512, 511), BadShape, {"part": "low"}),
            (3, wrong_numbers(-512, 511), BadShape, {"part": "high"})])
        refuses(self, Shape, [16, 16, 511, 511], [
            (0, [17, 0], BadShape, {"part": "height"}), (1, [17, 0], BadShape, {"part": "width"}),
            (2, [512], BadShape, {"part": "low"}), (3, [512, 510, -512], BadShape, {"part": "high"})])
        raises(self, BadShape, Shape, [1, 1, 5, 4], part="high")
        raises(self, BadShape, Shape, [1, 1, 0, -1], part="high")


class Planes(unittest.TestCase):
    def test_planes(self):
        rng = random.Random(4)
        for height, width in SIZES:
            shape = sized(height, width)
            for _ in range(3):
                self.assertIs(is_plane(shape, plane_of(shape, rng)), True)
            for thing in wrong_planes(shape):
                self.assertIs(is_plane(shape, thing), False, thing)

    def test_each_part_is_looked_at(self):
        shape = Shape(2, 3, -3, 8)
        plane = ((0, 1, 2), (3, 4, 5))
        for y in range(2):
            for x in range(3):
                for number in (-3, 8):
                    self.assertIs(is_plane(shape, with_sample(plane, (y, x), number)), True)
                for part in (-4, 9, True, False, None, "1", (1,), [1]):
                    self.assertIs(is_plane(shape, with_sample(plane, (y, x), part)), False)
        self.assertIs(is_plane(shape, ((0, 1), (2, 3), (4, 5))), False)
        self.assertIs(is_plane(Shape(2, 2, 0, 1), ((0, 1), (True, 0))), False)

    def test_flat(self):
        self.assertEqual(flat_plane(Shape(2, 3, -3, 8), 8), ((8, 8, 8), (8, 8, 8)))
        self.assertEqual(flat_plane(Shape(3, 2, -3, 8), -3), ((-3, -3), (-3, -3), (-3, -3)))
        for height, width in SIZES:
            shape = sized(height, width)
            self.assertIs(is_plane(shape, flat_plane(shape, 0)), True)
        self.assertEqual(flat_plane(Shape(1, 1, 5, 5), 5), ((5,),))

    def test_wrong_inputs(self):
        refuses(self, is_plane, [SHAPE, None], [NO_SHAPE])
        refuses(self, flat_plane, [SHAPE, 0], [NO_SHAPE, (1, wrong_numbers(0, 9), BadNumber)])
        refuses(self, flat_plane, [Shape(1, 1, 1, 1), 1], [NO_SHAPE, (1, [True, 0, 2], BadNumber)])


class Turning(unittest.TestCase):
    def test_by_hand(self):
        plane = ((1, 2, 3), (4, 5, 6))
        self.assertEqual(turned(plane, "sideways"), ((3, 2, 1), (6, 5, 4)))
        self.assertEqual(turned(plane, "upside"), ((4, 5, 6), (1, 2, 3)))
        self.assertEqual(turned(plane, "corner"), ((1, 4), (2, 5), (3, 6)))

    def test_where_samples_come(self):
        rng = random.Random(5)
        for height, width in SIZES:
            plane = plane_of(Shape(height, width, -512, 511), rng)
            kept = tuple(tuple(row) for row in plane)
            side, down, corner = [turned(plane, way) for way in ("sideways", "upside", "corner")]
            for y in range(height):
                for x in range(width):
                    self.assertEqual(side[y][width - 1 - x], plane[y][x])
                    self.assertEqual(down[height - 1 - y][x], plane[y][x])
                    self.assertEqual(corner[x][y], plane[y][x])
            self.assertIs(is_plane(Shape(width, height, -512, 511), corner), True)
            for way in ("sideways", "upside", "corner"):
                self.assertEqual(turned(turned(plane, way), way), plane)
            self.assertEqual(turned(side, "upside"), turned(down, "sideways"))
            self.assertEqual(turned(side, "corner"), turned(corner, "upside"))
            self.assertEqual(plane, kept)

    def test_wrong_inputs(self):
        plane = ((-512, 511), (0, 0))
        planes = [thing for thing in wrong_planes(Shape(2, 2, -512, 511)) if not is_any_plane(thing)]
        refuses(self, turned, [plane, "corner"], [
            (0, planes + [((0,) * 17,), ((0,),) * 17, ((),), ((), ()), ((1, 2), (3,)), ((1,), (2, 3))], BadPlane),
            (1, NOTHINGS + ["", "Corner", "side", ("corner",), "sideways "], BadWay)])
        self.assertEqual(turned(((0,) * 16,) * 16, "corner"), ((0,) * 16,) * 16)


def is_any_plane(thing):
    return isinstance(thing, tuple) and len(thing) > 0 and all(isinstance(row, tuple) for row in thing) and any(
        is_plane(Shape(len(thing), width, -512, 511), thing) for width in (1, 2, 3))


class Blocks(unittest.TestCase):
    def test_is_block(self):
        for height, width in SIZES:
            shape = sized(height, width)
            blocks = all_blocks(shape)
            for thing in itertools.product(range(-2, 18), range(-2, 18), (1, 2, 4, 8, 16)):
                self.assertIs(is_block(shape, thing), thing in blocks)
            for thing in wrong_blocks(shape) + NOTHINGS:
                self.assertIs(is_block(shape, thing), False, thing)

    def test_spots(self):
        for height, width in SIZES:
            shape = sized(height, width)
            for block in all_blocks(shape):
                top, left, size = block
                expected = [(y, x) for y in range(height) for x in range(width)
                            if top <= y <= top + size - 1 and left <= x <= left + size - 1]
                self.assertEqual(spots(shape, block), expected)
                self.assertTrue(expected)

    def test_roots_and_quarters(self):
        self.assertEqual(roots(sized(16, 16)), [(0, 0, 8), (0, 8, 8), (8, 0, 8), (8, 8, 8)])
        self.assertEqual(roots(sized(1, 9)), [(0, 0, 8), (0, 8, 8)])
        self.assertEqual(quarters(sized(8, 8), (0, 0, 8)), [(0, 0, 4), (0, 4, 4), (4, 0, 4), (4, 4, 4)])
        self.assertEqual(quarters(sized(16, 16), (8, 12, 4)), [(8, 12, 2), (8, 14, 2), (10, 12, 2), (10, 14, 2)])
        self.assertEqual(quarters(sized(9, 3), (0, 0, 8)), [(0, 0, 4), (4, 0, 4)])
        self.assertEqual(quarters(sized(3, 9), (0, 0, 8)), [(0, 0, 4), (0, 4, 4)])
        self.assertEqual(quarters(sized(2, 2), (0, 0, 4)), [(0, 0, 2)])
        for height, width in SIZES:
            shape = sized(height, width)
            self.assertEqual(roots(shape), sorted(block for block in all_blocks(shape) if block[2] == 8))
            for block in all_blocks(shape):
                self.assertEqual(quarters(shape, block), plain_quarters(shape, block))

    def test_cells(self):
        self.assertEqual(cells(Shape(2, 3, 0, 9)), [(0, 0, 2), (0, 2, 2)])
        self.assertEqual(cells(sized(3, 6)), [(0, 0, 2), (0, 2, 2), (2, 0, 2), (2, 2, 2), (0, 4, 2), (2, 4, 2)])
        for height, width in SIZES:
            shape = sized(height, width)
            found = cells(shape)
            self.assertEqual(found, plain_cells(shape))
            self.assertEqual(sorted(found), sorted(block for block in all_blocks(shape) if block[2] == 2))

    def test_places(self):
        for height, width in SIZES:
            shape = sized(height, width)
            at = {}
            for block in all_blocks(shape):
                place = place_of(shape, block)
                self.assertEqual(place, plain_places(shape, block))
                self.assertIsInstance(place, tuple)
                self.assertTrue(all(lies_in(cell, block) for cell in cells(shape)[place[0]:place[1]]))
                at.setdefault(place[0], []).append(block)
            for place in range(len(cells(shape))):
                expected = sorted(at[place], key=lambda block: -block[2])
                self.assertEqual(blocks_at(shape, place), expected)

    def test_what_stands_beside_is_ahead(self):
        for height, width in SIZES:
            shape = sized(height, width)
            row = cells(shape)
            for block in all_blocks(shape):
                top, left, _ = block
                ahead = {spot for cell in row[:place_of(shape, block)[0]] for spot in spots(shape, cell)}
                for y, x in spots(shape, block):
                    for spot in ((y, left - 1), (top - 1, x), (top - 1, left - 1)):
                        self.assertTrue(min(spot) < 0 or spot in ahead)

    def test_lists_are_new(self):
        shape = sized(5, 6)
        for call, args in [(spots, [shape, (0, 0, 4)]), (roots, [shape]), (cells, [shape]),
                           (quarters, [shape, (0, 0, 8)]), (blocks_at, [shape, 0]), (quarters, [shape, (0, 0, 2)])]:
            first = call(*args)
            self.assertIsInstance(first, list)
            kept = list(first)
            first.append("more")
            self.assertEqual(call(*args), kept)

    def test_wrong_inputs(self):
        for call in (roots, cells, many_covers):
            refuses(self, call, [SHAPE], [NO_SHAPE])
        for call in (is_block, is_cover):
            refuses(self, call, [SHAPE, None], [NO_SHAPE])
        for height, width in [(3, 5), (8, 8), (9, 16), (1, 1)]:
            shape = sized(height, width)
            for call in (spots, quarters, place_of):
                refuses(self, call, [shape, (0, 0, 8)], [NO_SHAPE, (1, wrong_blocks(shape), BadBlock)])
            many = len(plain_cells(shape))
            refuses(self, blocks_at, [shape, many - 1], [NO_SHAPE, (1, wrong_numbers(0, many - 1), BadPlace)])
            refuses(self, blocks_at, [shape, 0], [NO_SHAPE, (1, [many, -1], BadPlace)])


class Covers(unittest.TestCase):
    def test_example(self):
        shape = Shape(2, 3, 0, 9)
        self.assertEqual(many_covers(shape), 3)
        for cover in ([(0, 0, 8)], [(0, 0, 4)], [(0, 0, 2), (0, 2, 2)], ((0, 0, 2), (0, 2, 2))):
            self.assertIs(is_cover(shape, cover), True)
        for thing in ([], (), [(0, 0, 2)], [(0, 2, 2)], [(0, 2, 2), (0, 0, 2)], [(0, 0, 4), (0, 2, 2)],
                      [(0, 0, 4), (0, 0, 4)], [(0, 0, 8), (0, 0, 4)], [[0, 0, 8]], [(0, 0, 8), None], [None],
                      (0, 0, 8), {(0, 0, 8): 1}, "cover", None, True, 0, shape, [(False, 0, 8)], [shape]):
            self.assertIs(is_cover(shape, thing), False, thing)

    def test_all_rows_of_blocks(self):
        for height, width, most in [(1, 1, 3), (2, 3, 3), (4, 4, 4), (3, 2, 3), (1, 9, 6), (9, 1, 6)]:
            shape = sized(height, width)
            blocks = all_blocks(shape)
            if len(blocks) > 7:
                blocks = [block for block in blocks if block[2] != 2]
            covers = set(plain_covers(shape))
            for many in range(most + 1):
                for row in itertools.product(blocks, repeat=many):
                    self.assertIs(is_cover(shape, list(row)), row in covers)

    def test_all_covers(self):
        for height, width in [(1, 1), (2, 3), (4, 4), (3, 6), (6, 5), (8, 8), (2, 12), (9, 4), (10, 10)]:
            shape = sized(height, width)
            covers = plain_covers(shape)
            self.assertEqual(many_covers(shape), len(covers))
            self.assertEqual(len(set(covers)), len(covers))
            for cover in covers[:300]:
                self.assertIs(is_cover(shape, cover), True)
                self.assertIs(is_cover(shape, list(cover[:-1])), False)
                self.assertIs(is_cover(shape, list(cover[1:])), False)
                self.assertIs(is_cover(shape, cover + (cover[-1],)), False)
                self.assertIs(is_cover(shape, cover[::-1]), len(cover) == 1)

    def test_many(self):
        self.assertEqual(many_covers(sized(16, 16)), (1 + (1 + 1) ** 4) ** 4)
        self.assertEqual(many_covers(sized(4, 4)), 3)
        self.assertEqual(many_covers(sized(5, 5)), 1 + 2 ** 4)


if __name__ == "__main__":
    unittest.main()
