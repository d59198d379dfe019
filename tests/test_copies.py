import random
import unittest
from fractions import Fraction
from math import floor

from helpers import (HEAD, NOTHINGS, SHAPE, SIZES, all_blocks, all_spots, plane_of, refuses, with_sample, wrong_blocks,
                     wrong_planes, wrong_shapes)
from pricedreels.copies import both_copied, copied, moved, reads_copied, sample_at, vectors_of
from pricedreels.errors import BadBlock, BadNumber, BadPlane, BadShape, BadVector
from pricedreels.grids import Shape, flat_plane, spots, turned

NO_SHAPE = (0, wrong_shapes(), BadShape, {"part": None})
VECTORS = [(dy, dx) for dy in range(-8, 9) for dx in range(-8, 9)]
WRONG_VECTORS = NOTHINGS + [
    0, SHAPE, [0, 0], (0,), (0, 0, 0), (9, 0), (0, 9), (-9, 0), (0, -9), (True, 0), (0, False), (None, 0), (0, None),
    ("0", 0), (0, "0"), ((0, 0),), {0: 0}, (0, (0,)), (8, 9), (-9, -8), "00"]
NO_NUMBERS = NOTHINGS + ["0", (0,), SHAPE]


def near(index, many):
    return 0 if index < 0 else many - 1 if index >= many else index


def plain_spots(shape, y, x):
    """The spots of which the mean is taken, the same one perhaps several times."""
    rows = [y // 2] if y % 2 == 0 else [y // 2, y // 2 + 1]
    columns = [x // 2] if x % 2 == 0 else [x // 2, x // 2 + 1]
    return [(near(row, shape.height), near(column, shape.width)) for row in rows for column in columns]


def plain_sample(shape, plane, y, x):
    parts = [plane[row][column] for row, column in plain_spots(shape, y, x)]
    return floor(Fraction(sum(parts), len(parts)))


def plain_copy(shape, block, vector, plane):
    return tuple(plain_sample(shape, plane, 2 * y + vector[0], 2 * x + vector[1]) for y, x in spots(shape, block))


class Samples(unittest.TestCase):
    def test_example(self):
        shape, plane = Shape(2, 3, 0, 9), ((1, 4, 0), (1, 5, 0))
        self.assertEqual(sample_at(shape, plane, 1, 1), 2)
        self.assertEqual(sample_at(shape, plane, -3, 2), 4)
        self.assertEqual(sample_at(shape, plane, 0, 9), 0)

    def test_by_hand(self):
        shape, plane = Shape(2, 3, -9, 9), ((1, 4, -6), (2, -7, 9))
        told = {(0, 0): 1, (2, 4): 9, (0, 1): 2, (0, 3): -1, (1, 0): 1, (1, 2): -2, (1, 1): 0, (1, 3): 0, (2, 3): 1,
                (3, 4): 9, (1, 5): 1, (-1, 0): 1, (-1, -1): 1, (-2, 3): -1, (5, 1): -3, (-7, 1): 2, (2, 5): 9}
        for (y, x), sample in told.items():
            self.assertEqual(sample_at(shape, plane, y, x), sample, (y, x))

    def test_within_and_beyond(self):
        rng = random.Random(8)
        for height, width in SIZES:
            shape = Shape(height, width, -300, 311)
            plane = plane_of(shape, rng)
            for y in range(-4, 2 * height + 4):
                for x in range(-4, 2 * width + 4):
                    self.assertEqual(sample_at(shape, plane, y, x), plain_sample(shape, plane, y, x))

    def test_far_beyond(self):
        rng = random.Random(9)
        for height, width in [(1, 1), (2, 3), (5, 6), (16, 16)]:
            shape = Shape(height, width, -300, 311)
            plane = plane_of(shape, rng)
            for far in (10 ** 12 - 1, 10 ** 12 - 2, 100, 101):
                for x in range(-2, 2 * width + 2):
                    column = plain_sample(shape, (plane[0],) * height, 0, x)
                    self.assertEqual(sample_at(shape, plane, -far, x), column)
                    column = plain_sample(shape, (plane[-1],) * height, 0, x)
                    self.assertEqual(sample_at(shape, plane, far, x), column)
                self.assertEqual(sample_at(shape, plane, far, far), plane[-1][-1])
                self.assertEqual(sample_at(shape, plane, -far, far), plane[0][-1])
                self.assertEqual(sample_at(shape, plane, far, -far), plane[-1][0])
                self.assertEqual(sample_at(shape, plane, -far, -far), plane[0][0])

    def test_turned(self):
        rng = random.Random(10)
        for height, width in SIZES:
            shape = Shape(height, width, -300, 311)
            plane = plane_of(shape, rng)
            side = turned(plane, "sideways")
            for y in range(-2, 2 * height + 2):
                for x in range(-5, 2 * width + 5):
                    self.assertEqual(sample_at(shape, plane, y, x), sample_at(shape, side, y, 2 * (width - 1) - x))

    def test_wrong_inputs(self):
        plane = flat_plane(SHAPE, 0)
        refuses(self, sample_at, [SHAPE, plane, 0, 0], [
            NO_SHAPE, (1, wrong_planes(SHAPE), BadPlane), (2, NO_NUMBERS, BadNumber), (3, NO_NUMBERS, BadNumber)])


class Copies(unittest.TestCase):
    def test_by_hand(self):
        shape, plane = Shape(2, 3, 0, 9), ((1, 4, 0), (1, 5, 0))
        self.assertEqual(copied(shape, (0, 0, 2), (0, 0), plane), (1, 4, 1, 5))
        self.assertEqual(copied(shape, (0, 0, 2), (0, 1), plane), (2, 2, 3, 2))
        self.assertEqual(copied(shape, (0, 2, 2), (0, -2), plane), (4, 5))
        self.assertEqual(copied(shape, (0, 0, 8), (1, -1), plane), (1, 2, 2, 1, 3, 2))
        other = ((9, 9, 9), (0, 0, 0))
        self.assertEqual(both_copied(shape, (0, 0, 2), (2, 0), plane, other), (5, 7, 5, 7))
        self.assertEqual(both_copied(shape, (0, 0, 2), (-2, 2), plane, other), (2, 0, 2, 0))

    def test_all_vectors(self):
        rng = random.Random(11)
        for height, width in [(1, 1), (2, 3), (5, 6), (3, 9), (10, 2)]:
            shape = Shape(height, width, -300, 311)
            plane, other = plane_of(shape, rng), plane_of(shape, rng)
            kept = (tuple(plane), tuple(other))
            for block in all_blocks(shape):
                for dy, dx in VECTORS:
                    one = plain_copy(shape, block, (dy, dx), plane)
                    two = plain_copy(shape, block, (-dy, -dx), other)
                    both = tuple((first + second) // 2 for first, second in zip(one, two))
                    self.assertEqual(copied(shape, block, (dy, dx), plane), one)
                    self.assertEqual(both_copied(shape, block, (dy, dx), plane, other), both)
            self.assertEqual((plane, other), kept)
        for height, width in [(16, 16), (11, 13)]:
            shape = Shape(height, width, -300, 311)
            plane = plane_of(shape, rng)
            for vector in [(0, 0), (8, -8), (-7, 7), (1, 0), (0, -1), (-5, -6)]:
                for block in all_blocks(shape):
                    self.assertEqual(copied(shape, block, vector, plane), plain_copy(shape, block, vector, plane))

    def test_reads(self):
        for height, width in [(1, 1), (2, 3), (5, 6), (3, 9), (10, 2)]:
            shape = Shape(height, width, 0, 9)
            for block in all_blocks(shape):
                for dy, dx in VECTORS:
                    expected = {spot for y, x in spots(shape, block)
                                for spot in plain_spots(shape, 2 * y + dy, 2 * x + dx)}
                    self.assertEqual(reads_copied(shape, block, (dy, dx)), sorted(expected))

    def test_what_is_looked_at_and_only_this_changes_a_copy(self):
        rng = random.Random(12)
        for height, width in [(2, 3), (5, 4), (3, 9)]:
            shape = Shape(height, width, 0, 9)
            low = flat_plane(shape, 0)
            for block in all_blocks(shape):
                for vector in rng.sample(VECTORS, 40) + [(0, 0), (1, 1), (8, 8)]:
                    ahead = copied(shape, block, vector, low)
                    changing = [spot for spot in all_spots(shape)
                                if copied(shape, block, vector, with_sample(low, spot, 9)) != ahead]
                    self.assertEqual(changing, reads_copied(shape, block, vector))

    def test_rises_and_small_changes(self):
        rng = random.Random(13)
        for height, width in SIZES:
            shape = Shape(height, width, -300, 311)
            for block in all_blocks(shape):
                error = rng.choice([1, 2, 30])
                vector = rng.choice(VECTORS)
                plane, other = plane_of(shape, rng), plane_of(shape, rng)
                risen, raised = [tuple(tuple(min(part + rng.randint(0, error), shape.high) for part in row)
                                       for row in rows) for rows in (plane, other)]
                for first, second in list(zip(copied(shape, block, vector, plane), copied(shape, block, vector, risen))
                                          ) + list(zip(both_copied(shape, block, vector, plane, other),
                                                       both_copied(shape, block, vector, risen, raised))):
                    self.assertTrue(0 <= second - first <= error)

    def test_kinds_of_results(self):
        plane = flat_plane(SHAPE, 0)
        self.assertIsInstance(copied(SHAPE, (0, 0, 8), (0, 0), plane), tuple)
        self.assertIsInstance(both_copied(SHAPE, (0, 0, 8), (0, 0), plane, plane), tuple)
        first = reads_copied(SHAPE, (0, 0, 2), (0, 0))
        self.assertEqual(first, [(0, 0), (0, 1), (1, 0), (1, 1)])
        first.clear()
        self.assertEqual(len(reads_copied(SHAPE, (0, 0, 2), (0, 0))), 4)

    def test_of_all_spots_at_once(self):
        rng = random.Random(27)
        for size in SIZES:
            shape = Shape(*size, -9, 9)
            plane = plane_of(shape, rng)
            for dy, dx in rng.sample(VECTORS, 6) + [(0, 0), (-8, 8)]:
                self.assertEqual(moved(shape, (dy, dx), plane),
                                 [[plain_sample(shape, plane, 2 * y + dy, 2 * x + dx) for x in range(shape.width)]
                                  for y in range(shape.height)])
        self.assertEqual(vectors_of(8), VECTORS)
        self.assertEqual(vectors_of(0), [(0, 0)])
        self.assertEqual(vectors_of(1), [(-1, -1), (-1, 0), (-1, 1), (0, -1), (0, 0), (0, 1), (1, -1), (1, 0), (1, 1)])

    def test_wrong_inputs(self):
        plane, block = flat_plane(SHAPE, 0), (0, 0, 4)
        blocks, planes = wrong_blocks(SHAPE), wrong_planes(SHAPE) + [HEAD]
        refuses(self, copied, [SHAPE, block, (8, -8), plane], [
            NO_SHAPE, (1, blocks, BadBlock), (2, WRONG_VECTORS, BadVector), (3, planes, BadPlane)])
        refuses(self, both_copied, [SHAPE, block, (-8, 8), plane, plane], [
            NO_SHAPE, (1, blocks, BadBlock), (2, WRONG_VECTORS, BadVector), (3, planes, BadPlane),
            (4, planes, BadPlane)])
        refuses(self, reads_copied, [SHAPE, block, (0, 0)], [
            NO_SHAPE, (1, blocks, BadBlock), (2, WRONG_VECTORS, BadVector)])


if __name__ == "__main__":
    unittest.main()
