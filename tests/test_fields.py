import itertools
import random
import unittest
from fractions import Fraction

from helpers import (NOTHINGS, SHAPE, all_blocks, plane_of, raises, refuses, with_sample, wrong_numbers,
                     wrong_planes, wrong_shapes)
from pricedreels.bits import long_bits
from pricedreels.errors import BadField, BadPlane, BadPrice, BadReach, BadShape, BadSize, TooMany
from pricedreels.fields import (field_bends, field_bits, field_prices, field_sum, is_field_prices, least_field,
                                many_least_fields)
from pricedreels.grids import Shape, flat_plane, place_of
from pricedreels.motion import difference
from told import vectors

NO_SHAPE = (0, wrong_shapes(), BadShape, {"part": None})
NO_NOW = (1, wrong_planes(SHAPE), BadPlane)
NO_THEN = (2, wrong_planes(SHAPE), BadPlane)
WRONG_SIZES = [thing for thing in wrong_numbers(2, 8)] + [3, 5, 6, 7, 16]
NO_SIZE = (3, WRONG_SIZES, BadSize)
NO_REACH = (4, wrong_numbers(0, 4), BadReach)
NO_PRICE = (5, wrong_numbers(0, 99), BadPrice)


def blocks_of(shape, size):
    return sorted([block for block in all_blocks(shape) if block[2] == size], key=lambda block: place_of(shape, block))


def step_bits(last, vector):
    return len(long_bits(vector[0] - last[0])) + len(long_bits(vector[1] - last[1]))


def plain_bits(field):
    return sum(step_bits(last, vector) for last, vector in zip(((0, 0),) + field, field))


def plain_sum(shape, now, then, size, field):
    return sum(difference(shape, now, then, block, vector) for block, vector in zip(blocks_of(shape, size), field))


def chance(rng, most=9, high=12):
    shape = Shape(rng.randint(1, most), rng.randint(1, most), 0, rng.randint(0, high))
    now = plane_of(shape, rng)
    then = now
    for _ in range(rng.choice([0, 2, 30])):
        then = with_sample(then, (rng.randrange(shape.height), rng.randrange(shape.width)), rng.randint(0, shape.high))
    return shape, now, then


def small_cases(rng):
    """Cases with few fields: a shape, two planes, a size and a reach."""
    for at in range(40):
        many, reach = rng.choice([(1, 4), (2, 2), (3, 1), (4, 1), (2, 1), (5, 0), (1, 0)])
        sizes = [(size, height, width) for size in (2, 4, 8) for height in range(1, 17) for width in range(1, 17)
                 if -(-height // size) * -(-width // size) == many and height * width < 40]
        size, height, width = rng.choice(sizes)
        shape = Shape(height, width, 0, rng.choice([1, 5, 30]))
        yield shape, plane_of(shape, rng), plane_of(shape, rng), size, reach, at


class Sums(unittest.TestCase):
    def test_by_hand(self):
        shape = Shape(1, 4, 0, 9)
        now, then = ((1, 2, 3, 4),), ((2, 3, 4, 9),)
        self.assertEqual(field_sum(shape, now, then, 8, ((0, 0),)), 8)
        self.assertEqual(field_sum(shape, now, then, 4, ((0, -2),)), 1)
        self.assertEqual(field_sum(shape, now, then, 2, ((0, -2), (0, 0))), 1 + 6)
        self.assertEqual(field_sum(shape, now, then, 2, ((0, 0), (8, -8))), 2 + 3)
        self.assertEqual(field_bits(shape, 2, ((0, 0), (0, 0))), 1 + 1 + 1 + 1)
        self.assertEqual(field_bits(shape, 2, ((1, -2), (1, -2))), 3 + 5 + 1 + 1)
        self.assertEqual(field_bits(shape, 2, ((1, -2), (-1, 0))), 3 + 5 + 5 + 5)
        self.assertEqual(field_bits(shape, 2, ((8, -8), (-8, 8))), 9 + 9 + 11 + 11)

    def test_places_ascend(self):
        # In two roots the cells of the first one come first, quarter by quarter.
        shape = Shape(8, 16, 0, 1)
        for size in (8, 4, 2):
            blocks = blocks_of(shape, size)
            for at, block in enumerate(blocks):
                now = with_sample(flat_plane(shape, 0), block[:2], 1)
                field = tuple((8, 8) if other == at else (0, 0) for other in range(len(blocks)))
                self.assertEqual(field_sum(shape, now, now, size, field), difference(shape, now, now, block, (8, 8)))

    def test_by_the_document(self):
        rng = random.Random(71)
        for _ in range(100):
            shape, now, then = chance(rng, 12)
            size = rng.choice([8, 4, 2])
            field = tuple((rng.randint(-8, 8), rng.randint(-8, 8)) for _ in blocks_of(shape, size))
            self.assertEqual(field_sum(shape, now, then, size, field), plain_sum(shape, now, then, size, field))
            self.assertEqual(field_bits(shape, size, field), plain_bits(field))

    def test_wrong_inputs(self):
        right = [SHAPE, flat_plane(SHAPE, 3), flat_plane(SHAPE, 4)]
        field = ((0, 0), (8, -8))
        wrong = NOTHINGS + [SHAPE, list(field), field[:1], field + field, ((0, 0), (9, 0)), ((0, 0), (0, -9)),
                            ((0, 0), [0, 0]), ((0, 0), (0, True)), ((None, 0), (0, 0)), ((0, 0), (0, 0, 0)), (0, 0),
                            ((0, 0), None), {(0, 0): 1, (8, -8): 2}]
        refuses(self, field_sum, right + [4, field], [NO_SHAPE, NO_NOW, NO_THEN, NO_SIZE, (4, wrong, BadField)])
        refuses(self, field_bits, [SHAPE, 4, field], [NO_SHAPE, (1, WRONG_SIZES, BadSize), (2, wrong, BadField)])


class Least(unittest.TestCase):
    def test_all_fields(self):
        rng = random.Random(72)
        for shape, now, then, size, reach, at in small_cases(rng):
            price = rng.choice([0, 0, 1, 3, 99])
            many = len(blocks_of(shape, size))
            fields = sorted(itertools.product(vectors(reach), repeat=many))
            rows = [{vector: difference(shape, now, then, block, vector) for vector in vectors(reach)}
                    for block in blocks_of(shape, size)]
            pairs = [(plain_bits(field), sum(row[vector] for row, vector in zip(rows, field))) for field in fields]
            worths = [total + price * bits for bits, total in pairs]
            least = min(worths)
            self.assertEqual(least_field(shape, now, then, size, reach, price), (least, fields[worths.index(least)]))
            self.assertEqual(many_least_fields(shape, now, then, size, reach, price), worths.count(least))
            self.assertEqual(field_prices(shape, now, then, size, reach, price)[(0, (0, 0))], least)
            if at % 3 == 0:
                self.assertEqual(field_bends(shape, now, then, size, reach), self.plain_bends(set(pairs)))

    def plain_bends(self, pairs):
        """The pairs that are better than all others at some price, tried at all prices that count."""
        counted = {Fraction(total - other, more - bits) for bits, total in pairs for more, other in pairs
                   if more > bits and total >= other}
        ends = sorted(counted | {Fraction(0)})
        tried = ends + [(one + other) / 2 for one, other in zip(ends, ends[1:])] + [ends[-1] + 1]
        found = set()
        for price in tried:
            worths = sorted((total + price * bits, bits, total) for bits, total in pairs)
            if len(worths) == 1 or worths[0][0] < worths[1][0]:
                found.add(worths[0][1:])
        return sorted(found)

    def test_by_hand(self):
        shape = Shape(1, 4, 0, 9)
        now, then = ((1, 2, 3, 4),), ((2, 3, 4, 9),)
        # Of one block: (dy, -2) for all dy have the difference 1, and 0 for dy has the fewest bits.
        self.assertEqual(least_field(shape, now, then, 8, 2, 0), (1, ((-2, -2),)))
        self.assertEqual(least_field(shape, now, then, 8, 2, 1), (1 + 6, ((0, -2),)))
        self.assertEqual(least_field(shape, now, then, 8, 2, 99), (8 + 2 * 99, ((0, 0),)))
        self.assertEqual(many_least_fields(shape, now, then, 8, 2, 0), 5)
        self.assertEqual(least_field(shape, now, then, 8, 2, 2), (3 + 4 * 2, ((0, -1),)))
        self.assertEqual([many_least_fields(shape, now, then, 8, 2, price) for price in (1, 2, 3)], [2, 1, 1])
        self.assertEqual(field_bends(shape, now, then, 8, 2), [(2, 8), (4, 3), (6, 1)])
        self.assertEqual(field_bends(shape, now, now, 2, 2), [(4, 0)])
        self.assertEqual(field_prices(shape, now, then, 8, 0, 3), {(0, (0, 0)): 14, (1, (0, 0)): 0})

    def test_ties_and_pairs_on_a_line(self):
        # A pair on the line between two others is never better than both.
        shape = Shape(1, 2, 0, 9)
        for now, then in ((((0, 0),), ((5, 0),)), (((0, 4),), ((0, 9),)), (((3, 1),), ((9, 2),))):
            rows = {vector: difference(shape, now, then, (0, 0, 8), vector) for vector in vectors(4)}
            pairs = {(plain_bits((vector,)), number) for vector, number in rows.items()}
            self.assertEqual(field_bends(shape, now, then, 8, 4), self.plain_bends(pairs))

    def test_bends_are_of_least_worth(self):
        rng = random.Random(73)
        for _ in range(25):
            shape, now, then = chance(rng, 8, 60)
            size, reach = rng.choice([(2, 1), (4, 2), (8, 3), (8, 4)])
            bends = field_bends(shape, now, then, size, reach)
            self.assertEqual(bends, sorted(bends))
            falls = [Fraction(one[1] - other[1], other[0] - one[0]) for one, other in zip(bends, bends[1:])]
            self.assertTrue(all(one > other for one, other in zip(falls, falls[1:])))
            self.assertTrue(all(fall > 0 for fall in falls))
            for price in (0, 1, 2, 5, 99):
                self.assertEqual(least_field(shape, now, then, size, reach, price)[0],
                                 min(total + price * bits for bits, total in bends))

    def test_larger_ones(self):
        rng = random.Random(74)
        for _ in range(30):
            shape, now, then = chance(rng, 16)
            size, reach = rng.choice([(2, 1), (4, 2), (8, 2), (8, 3)])
            price = rng.choice([0, 1, 7])
            worth, field = least_field(shape, now, then, size, reach, price)
            self.assertEqual(worth, plain_sum(shape, now, then, size, field) + price * plain_bits(field))
            found = field_prices(shape, now, then, size, reach, price)
            self.assertEqual(found[(0, (0, 0))], worth)
            blocks = blocks_of(shape, size)
            self.assertEqual(list(found), [(0, (0, 0))] + [(place, vector) for place in range(1, len(blocks) + 1)
                                                           for vector in vectors(reach)])
            for vector in vectors(reach):
                self.assertEqual(found[(len(blocks), vector)], 0)
                last = len(blocks) - 1
                if last > 0:
                    self.assertEqual(found[(last, vector)], min(
                        difference(shape, now, then, blocks[last], other) + price * step_bits(vector, other)
                        for other in vectors(reach)))
            self.assertIs(is_field_prices(shape, now, then, size, reach, price, found), True)


class Prices(unittest.TestCase):
    def plainly(self, shape, now, then, size, reach, price, thing):
        blocks = blocks_of(shape, size)
        for place, block in enumerate(blocks):
            for last in vectors(reach) if place else [(0, 0)]:
                for vector in vectors(reach):
                    step = difference(shape, now, then, block, vector) + price * step_bits(last, vector)
                    if thing[(place, last)] > thing[(place + 1, vector)] + step:
                        return False
        return all(thing[(len(blocks), vector)] <= 0 for vector in vectors(reach))

    def test_numbers_that_are_prices(self):
        rng = random.Random(75)
        for shape, now, then, size, reach, at in small_cases(rng):
            price = rng.choice([0, 1, 5])
            right = [shape, now, then, size, reach, price]
            best = field_prices(*right)
            self.assertIs(is_field_prices(*right, best), True)
            self.assertIs(is_field_prices(*right, {key: 0 for key in best}), True)
            self.assertIs(is_field_prices(*right, {key: number - 3 for key, number in best.items()}), True)
            self.assertIs(is_field_prices(*right, {key: number + 1 for key, number in best.items()}), False)
            # They are the greatest ones: none can be raised alone, and none of the others by itself.
            for key in rng.sample(list(best), min(4, len(best))):
                self.assertIs(is_field_prices(*right, {**best, key: best[key] + 1}), False)
                less = {**best, key: best[key] - rng.choice([1, 4])}
                self.assertIs(is_field_prices(*right, less), self.plainly(*right, less))

    def test_values_that_are_none(self):
        shape = Shape(1, 3, 0, 9)
        right = [shape, ((1, 2, 3),), ((3, 2, 1),), 2, 1, 2]
        best = field_prices(*right)
        self.assertEqual(len(best), 1 + 9 + 9)
        less = {key: number for key, number in best.items() if key != (1, (0, 1))}
        wrongs = NOTHINGS + [SHAPE, list(best.items()), less, {**best, (0, (0, 1)): 0}, {**best, (3, (0, 0)): 0},
                             {**less, (1, (0, True)): 0}, {**less, (True, (0, 1)): 0}, {**less, (1, (0, 2)): 0},
                             {**less, (0, (0, 1)): 0}, {**best, "x": 0}, {**less, None: 0}, {**less, (1, 0, 1): 0}]
        wrongs += [{**best, key: number} for key in ((0, (0, 0)), (1, (0, 1)), (2, (1, 1)))
                   for number in (None, True, False, "0", (0,), [0], SHAPE)]
        for thing in wrongs:
            self.assertIs(is_field_prices(*right, thing), False, thing)

    def test_the_last_place_is_looked_at(self):
        right = [Shape(1, 1, 0, 9), ((5,),), ((5,),), 8, 0, 0]
        for last, first, good in ((0, 0, True), (1, 0, False), (1, 1, False), (-1, -1, True), (-1, 0, False)):
            thing = {(0, (0, 0)): first, (1, (0, 0)): last}
            self.assertIs(is_field_prices(*right, thing), good)

    def test_wrong_inputs(self):
        right = [SHAPE, flat_plane(SHAPE, 3), flat_plane(SHAPE, 4), 4, 1, 2]
        checks = [NO_SHAPE, NO_NOW, NO_THEN, NO_SIZE, NO_REACH]
        for call in (least_field, many_least_fields, field_prices):
            refuses(self, call, right, checks + [NO_PRICE])
        refuses(self, is_field_prices, right + [{}], checks + [NO_PRICE])
        refuses(self, field_bends, right[:5], checks)

    def test_limits(self):
        # The number of blocks times the square of the number of vectors: 3 * 81 ** 2 is 19683, 32 * 25 ** 2 is 20000.
        inside = [(1, 3, 2, 4), (1, 6, 2, 4), (8, 16, 2, 2), (16, 8, 2, 2), (4, 16, 2, 2), (16, 16, 2, 1), (5, 6, 4, 3)]
        beyond = [(2, 7, 2, 4), (9, 16, 2, 2), (16, 16, 2, 2), (16, 16, 8, 4), (8, 12, 4, 4), (4, 9, 2, 3)]
        for shapes, inner in ((inside, True), (beyond, False)):
            for height, width, size, reach in shapes:
                shape = Shape(height, width, 0, 1)
                tries = len(blocks_of(shape, size)) * (2 * reach + 1) ** 4
                self.assertEqual(tries <= 20000, inner, (height, width, size, reach))
                plane = flat_plane(shape, 1)
                right = [shape, plane, plane, size, reach]
                for call, more in ((least_field, [3]), (many_least_fields, [3]), (field_prices, [3]),
                                   (is_field_prices, [3, {}]), (field_bends, [])):
                    if inner:
                        call(*right, *more)
                    else:
                        raises(self, TooMany, call, right + more, most=20000)
                        raises(self, BadReach, call, right[:4] + [5] + more)
                        raises(self, BadSize, call, right[:3] + [3, 4] + more)
                        if more:
                            raises(self, BadPrice, call, right + [100] + more[1:])
        shape = Shape(8, 16, 0, 1)
        plane = flat_plane(shape, 1)
        self.assertEqual(least_field(shape, plane, plane, 2, 2, 3), (64 * 3, ((0, 0),) * 32))
        self.assertEqual(field_sum(Shape(16, 16, 0, 1), flat_plane(Shape(16, 16, 0, 1), 1),
                                   flat_plane(Shape(16, 16, 0, 1), 0), 2, ((8, 8),) * 64), 256)


if __name__ == "__main__":
    unittest.main()
