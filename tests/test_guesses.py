import random
import unittest

from helpers import (NOTHINGS, SHAPE, SIZES, all_blocks, all_spots, plane_of, raises, refuses, with_sample,
                     wrong_blocks, wrong_numbers, wrong_planes, wrong_shapes)
from pricedreels.errors import BadBlock, BadKind, BadMode, BadPlane, BadShape
from pricedreels.grids import Shape, cells, flat_plane, place_of, spots
from pricedreels.guesses import guess, modes_at, reads_within

WITHIN = ["flat", "left", "up", "middle", "mean"]
NO_SHAPE = (0, wrong_shapes(), BadShape, {"part": None})


def can_stand(block, mode):
    top, left, _ = block
    return {"flat": True, "left": left > 0, "up": top > 0, "middle": left > 0 and top > 0,
            "mean": left > 0 or top > 0}[mode]


def plain_reads(shape, block, mode):
    top, left, _ = block
    own = spots(shape, block)
    lefts = {(y, left - 1) for y, _ in own if left > 0}
    ups = {(top - 1, x) for _, x in own if top > 0}
    return sorted({"flat": set(), "left": lefts, "up": ups, "middle": lefts | ups | {(top - 1, left - 1)},
                   "mean": lefts | ups}[mode])


def plain_guess(shape, block, mode, plane):
    top, left, _ = block
    found = []
    for y, x in spots(shape, block):
        if mode == "flat":
            found.append(shape.middle)
        elif mode == "left":
            found.append(plane[y][left - 1])
        elif mode == "up":
            found.append(plane[top - 1][x])
        elif mode == "middle":
            a, b, c = plane[y][left - 1], plane[top - 1][x], plane[top - 1][left - 1]
            found.append(max(min(a, b), min(a, c), min(b, c)))
        else:
            row = [plane[y][x] for y, x in plain_reads(shape, block, "mean")]
            found.append(next(k for k in range(511, -514, -1) if k * len(row) <= sum(row)))
    return tuple(found)


def cases(sizes=SIZES):
    for height, width in sizes:
        shape = Shape(height, width, -300, 311)
        for block in all_blocks(shape):
            yield shape, block


class Modes(unittest.TestCase):
    def test_all_blocks_and_kinds(self):
        for shape, block in cases():
            within = [mode for mode in WITHIN if can_stand(block, mode)]
            self.assertEqual(modes_at(shape, block, 0), within)
            self.assertEqual(modes_at(shape, block, 1), within + ["copy", "still"])
            self.assertEqual(modes_at(shape, block, 2), within + ["copy", "both", "still"])

    def test_by_hand(self):
        shape = Shape(4, 4, 0, 9)
        self.assertEqual(modes_at(shape, (0, 0, 2), 0), ["flat"])
        self.assertEqual(modes_at(shape, (0, 2, 2), 0), ["flat", "left", "mean"])
        self.assertEqual(modes_at(shape, (2, 0, 2), 0), ["flat", "up", "mean"])
        self.assertEqual(modes_at(shape, (2, 2, 2), 2), WITHIN + ["copy", "both", "still"])

    def test_list_is_new(self):
        first = modes_at(SHAPE, (0, 0, 2), 2)
        first.clear()
        self.assertEqual(modes_at(SHAPE, (0, 0, 2), 2), ["flat", "copy", "both", "still"])

    def test_wrong_inputs(self):
        refuses(self, modes_at, [SHAPE, (0, 0, 2), 0], [
            NO_SHAPE, (1, wrong_blocks(SHAPE), BadBlock), (2, wrong_numbers(0, 2), BadKind)])


class Guesses(unittest.TestCase):
    def test_example(self):
        shape, block, plane = Shape(2, 3, 0, 9), (0, 2, 2), ((1, 4, 0), (1, 5, 0))
        self.assertEqual(guess(shape, block, "left", plane), (4, 5))
        self.assertEqual(guess(shape, block, "mean", plane), (4, 4))
        self.assertEqual(guess(shape, block, "flat", plane), (4, 4))
        for mode in ("up", "middle"):
            raises(self, BadMode, guess, [shape, block, mode, plane], mode=mode)

    def test_by_hand(self):
        plane = ((1, 2, 3, 4), (5, 6, 7, 8), (9, 9, 0, 0), (9, 1, 0, 0))
        shape, block = Shape(4, 4, 0, 9), (2, 2, 2)
        self.assertEqual(guess(shape, block, "flat", plane), (4, 4, 4, 4))
        self.assertEqual(guess(shape, block, "left", plane), (9, 9, 1, 1))
        self.assertEqual(guess(shape, block, "up", plane), (7, 8, 7, 8))
        self.assertEqual(guess(shape, block, "middle", plane), (7, 8, 6, 6))
        self.assertEqual(guess(shape, block, "mean", plane), (6, 6, 6, 6))
        self.assertEqual(guess(shape, (2, 0, 2), "mean", plane), (5, 5, 5, 5))
        low = Shape(1, 3, -9, 0)
        self.assertEqual(guess(low, (0, 2, 2), "flat", ((-1, -3, 0),)), (-5,))
        self.assertEqual(guess(Shape(2, 3, -9, 0), (0, 2, 2), "mean", ((0, -3, 0), (0, -4, 0))), (-4, -4))

    def test_all_modes_at_all_blocks(self):
        rng = random.Random(6)
        for shape, block in cases():
            plane = plane_of(shape, rng)
            kept = tuple(tuple(row) for row in plane)
            for mode in WITHIN:
                if can_stand(block, mode):
                    found = guess(shape, block, mode, plane)
                    self.assertEqual(found, plain_guess(shape, block, mode, plane))
                    self.assertIsInstance(found, tuple)
                    self.assertTrue(all(shape.low <= number <= shape.high for number in found))
                    self.assertEqual(reads_within(shape, block, mode), plain_reads(shape, block, mode))
                else:
                    raises(self, BadMode, guess, [shape, block, mode, plane], mode=mode)
                    raises(self, BadMode, reads_within, [shape, block, mode], mode=mode)
            self.assertEqual(plane, kept)

    def test_what_is_looked_at_and_only_this_changes_a_guess(self):
        for shape, block in cases([(2, 3), (3, 2), (4, 4), (5, 6), (8, 9), (9, 10)]):
            rng = random.Random(repr(block))
            for mode in WITHIN:
                if can_stand(block, mode):
                    self.look(shape, block, mode, rng)

    def look(self, shape, block, mode, rng):
        reads = reads_within(shape, block, mode)
        changing = set()
        low, high = flat_plane(shape, shape.low), flat_plane(shape, shape.high)
        planes = [low, high] + [plane_of(shape, rng) for _ in range(3)]
        # In such a plane the sample at the corner, or those above, are the middle ones.
        planes += [tuple(tuple(shape.low if x < block[1] else shape.high for x in range(shape.width))
                         for _ in range(shape.height))]
        for plane in planes:
            ahead = guess(shape, block, mode, plane)
            for y, x in all_spots(shape):
                for number in (shape.low, shape.high):
                    if guess(shape, block, mode, with_sample(plane, (y, x), number)) != ahead:
                        changing.add((y, x))
        self.assertEqual(sorted(changing), reads)

    def test_what_is_looked_at_lies_ahead(self):
        for shape, block in cases():
            ahead = {spot for cell in cells(shape)[:place_of(shape, block)[0]] for spot in spots(shape, cell)}
            for mode in WITHIN:
                if can_stand(block, mode):
                    self.assertTrue(ahead.issuperset(reads_within(shape, block, mode)))

    def test_rises_and_small_changes(self):
        rng = random.Random(7)
        for shape, block in cases():
            for error in (1, 3, 40):
                plane = plane_of(shape, rng)
                risen = tuple(tuple(min(part + rng.randint(0, error), shape.high) for part in row) for row in plane)
                for mode in WITHIN:
                    if can_stand(block, mode):
                        pairs = zip(guess(shape, block, mode, plane), guess(shape, block, mode, risen))
                        self.assertTrue(all(0 <= second - first <= error for first, second in pairs))

    def test_list_is_new(self):
        first = reads_within(SHAPE, (0, 4, 2), "left")
        first.append(None)
        self.assertEqual(reads_within(SHAPE, (0, 4, 2), "left"), [(0, 3), (1, 3)])
        none = reads_within(SHAPE, (0, 4, 2), "flat")
        none.append(None)
        self.assertEqual(reads_within(SHAPE, (0, 4, 2), "flat"), [])

    def test_wrong_inputs(self):
        modes = NOTHINGS + ["copy", "both", "still", "", "Left", "left ", "none", ("left",), SHAPE, "up", "middle"]
        plane = flat_plane(SHAPE, 0)
        refuses(self, guess, [SHAPE, (0, 4, 2), "left", plane], [
            NO_SHAPE, (1, wrong_blocks(SHAPE), BadBlock), (2, modes, BadMode, {"mode": "itself"}),
            (3, wrong_planes(SHAPE), BadPlane)])
        refuses(self, reads_within, [SHAPE, (0, 4, 2), "left"], [
            NO_SHAPE, (1, wrong_blocks(SHAPE), BadBlock), (2, modes, BadMode, {"mode": "itself"})])


if __name__ == "__main__":
    unittest.main()
