import itertools
import random
import unittest
from math import ceil, floor
from fractions import Fraction

from helpers import HEAD, NOTHINGS, SHAPE, raises, refuses, rests_of, wrong_numbers
from pricedreels.errors import BadLoss, BadRectangle, BadSize, BadSpans, BadSpot, BadUpper
from pricedreels.lifts import areas, is_rectangle, lift_end, lift_errors, lift_spans, lifted, unlifted, worst_lift

ALL_SIZES = [(height, width) for height in range(1, 17) for width in range(1, 17)]
SMALL_SIZES = [(1, 1), (1, 2), (2, 1), (1, 3), (3, 1), (2, 2), (2, 3), (3, 2), (1, 5), (5, 1), (3, 3)]
WRONG_SIZES = wrong_numbers(1, 16)
WRONG_LOSSES = wrong_numbers(0, 7)
WRONG_RECTANGLES = NOTHINGS + [
    0, SHAPE, ((),), ((), ()), [(1,)], ([1],), (1, 2), ((1, 2), (3,)), ((1,), (2, 3)), ((True,),), ((1, False),),
    ((1,), (None,)), (("1",),), (((1,),),), ("1", "2"), ((1,), "1"), ((1,), 1), (1, (1,)), ((1,) * 17,),
    ((1,),) * 17, {(1,): 1}, ((1, 2), [3, 4]), ((1, 2), (3, "4")), (None, (1,)), ((SHAPE,),)]


def split(area):
    top, left, height, width = area
    if height >= width:
        upper = ceil(Fraction(height, 2))
        return (top, left, upper, width), (top + upper, left, height - upper, width)
    many = ceil(Fraction(width, 2))
    return (top, left, height, many), (top, left + many, height, width - many)


def plain_areas(height, width):
    found, waiting = [], [(0, 0, height, width)]
    while waiting:
        area = waiting.pop(0)
        found.append(area)
        if area[2] * area[3] > 1:
            waiting += split(area)
    return found


def inner_areas(height, width):
    return [area for area in plain_areas(height, width) if area[2] * area[3] > 1]


def mean(rectangle, area):
    if area[2] * area[3] == 1:
        return rectangle[area[0]][area[1]]
    first, second = split(area)
    return floor(Fraction(mean(rectangle, first) + mean(rectangle, second), 2))


def plain_lifted(rectangle):
    height, width = len(rectangle), len(rectangle[0])
    numbers = [mean(rectangle, (0, 0, height, width))]
    for area in inner_areas(height, width):
        first, second = split(area)
        numbers.append(mean(rectangle, second) - mean(rectangle, first))
    return rows_of(numbers, height, width)


def plain_number(rectangle, y, x):
    """The number at a spot of what is unlifted: the mean, and what each area in which it lies does to it."""
    height, width = len(rectangle), len(rectangle[0])
    numbers = [number for row in rectangle for number in row]
    found = numbers[0]
    for at, area in enumerate(inner_areas(height, width)):
        first, second = split(area)
        if holds(first, y, x):
            found -= floor(Fraction(numbers[at + 1], 2))
        elif holds(second, y, x):
            found += numbers[at + 1] - floor(Fraction(numbers[at + 1], 2))
    return found


def holds(area, y, x):
    return area[0] <= y < area[0] + area[2] and area[1] <= x < area[1] + area[3]


def plain_unlifted(rectangle):
    return tuple(tuple(plain_number(rectangle, y, x) for x in range(len(rectangle[0]))) for y in range(len(rectangle)))


def rows_of(numbers, height, width):
    return tuple(tuple(numbers[width * y:width * (y + 1)]) for y in range(height))


def chance(rng, height, width, most):
    return tuple(tuple(rng.randint(-most, most) for _ in range(width)) for _ in range(height))


class Areas(unittest.TestCase):
    def test_example(self):
        self.assertEqual(areas(1, 3), [(0, 0, 1, 3), (0, 0, 1, 2), (0, 2, 1, 1), (0, 0, 1, 1), (0, 1, 1, 1)])

    def test_by_hand(self):
        self.assertEqual(areas(1, 1), [(0, 0, 1, 1)])
        self.assertEqual(areas(2, 2), [(0, 0, 2, 2), (0, 0, 1, 2), (1, 0, 1, 2), (0, 0, 1, 1), (0, 1, 1, 1),
                                       (1, 0, 1, 1), (1, 1, 1, 1)])
        self.assertEqual(areas(3, 2), [(0, 0, 3, 2), (0, 0, 2, 2), (2, 0, 1, 2), (0, 0, 1, 2), (1, 0, 1, 2),
                                       (2, 0, 1, 1), (2, 1, 1, 1), (0, 0, 1, 1), (0, 1, 1, 1), (1, 0, 1, 1),
                                       (1, 1, 1, 1)])

    def test_all_sizes(self):
        for height, width in ALL_SIZES:
            found = areas(height, width)
            self.assertEqual(found, plain_areas(height, width))
            self.assertEqual(len(found), 2 * height * width - 1)
            found.append(None)
            self.assertEqual(len(areas(height, width)), 2 * height * width - 1)

    def test_wrong_inputs(self):
        for right in ([1, 1], [16, 16]):
            refuses(self, areas, right, [(0, WRONG_SIZES, BadSize), (1, WRONG_SIZES, BadSize)])


class Lifting(unittest.TestCase):
    def test_rectangles(self):
        rng = random.Random(15)
        for height, width in ALL_SIZES:
            self.assertIs(is_rectangle(chance(rng, height, width, 10 ** 11)), True)
        for thing in WRONG_RECTANGLES:
            self.assertIs(is_rectangle(thing), False, thing)

    def test_each_part_is_looked_at(self):
        for y in range(2):
            for x in range(3):
                for part in (True, False, None, "1", (1,), [1], HEAD):
                    rows = [[1, 2, 3], [4, 5, 6]]
                    rows[y][x] = part
                    self.assertIs(is_rectangle(tuple(tuple(row) for row in rows)), False)

    def test_example(self):
        self.assertEqual(lifted(((3, 8, 1),)), ((3, -4, 5),))
        self.assertEqual(unlifted(((3, -4, 5),)), ((3, 8, 1),))

    def test_by_hand(self):
        self.assertEqual(lifted(((7,),)), ((7,),))
        self.assertEqual(unlifted(((-7,),)), ((-7,),))
        self.assertEqual(lifted(((1, -2), (-4, 7))), ((0, 2), (-3, 11)))
        self.assertEqual(lifted(((-1,), (-2,))), ((-2,), (-1,)))
        self.assertEqual(unlifted(((-2,), (-1,))), ((-1,), (-2,)))

    def test_all_sizes_by_the_document(self):
        rng = random.Random(16)
        for height, width in ALL_SIZES:
            if height * width <= 64 or height == width or 16 in (height, width) and 5 in (height, width):
                rectangle = chance(rng, height, width, rng.choice([3, 900, 10 ** 11]))
                kept = tuple(tuple(row) for row in rectangle)
                self.assertEqual(lifted(rectangle), plain_lifted(rectangle))
                self.assertEqual(unlifted(rectangle), plain_unlifted(rectangle))
                self.assertEqual(rectangle, kept)

    def test_both_undo_one_another(self):
        rng = random.Random(17)
        for height, width in ALL_SIZES:
            for most in (1, 4, 512, 10 ** 12 - 1):
                rectangle = chance(rng, height, width, most)
                self.assertEqual(unlifted(lifted(rectangle)), rectangle)
                self.assertEqual(lifted(unlifted(rectangle)), rectangle)
        for height, width in [(1, 2), (1, 3), (2, 2)]:
            for numbers in rests_of(-3, 3, height * width):
                rectangle = rows_of(numbers, height, width)
                self.assertEqual(unlifted(lifted(rectangle)), rectangle)
                self.assertEqual(lifted(unlifted(rectangle)), rectangle)

    def test_ends_of_means_and_differences(self):
        for height, width in [(1, 2), (2, 2), (1, 3), (2, 3)]:
            found = [[] for _ in range(height * width)]
            for numbers in rests_of(-1, 1, height * width):
                row = [number for part in lifted(rows_of(numbers, height, width)) for number in part]
                for at, number in enumerate(row):
                    found[at].append(number)
            self.assertEqual((min(found[0]), max(found[0])), (-1, 1))
            for row in found[1:]:
                self.assertEqual((min(row), max(row)), (-2, 2))

    def test_all_numbers_rise(self):
        rng = random.Random(18)
        for height, width in [(1, 1), (2, 3), (5, 4), (16, 7)]:
            rectangle = chance(rng, height, width, 50)
            for k in (1, -3, 1000):
                first = [number for row in lifted(rectangle) for number in row]
                risen = lifted(tuple(tuple(number + k for number in row) for row in rectangle))
                self.assertEqual(risen, rows_of([first[0] + k] + first[1:], height, width))

    def test_wrong_inputs(self):
        for call in (lifted, unlifted):
            refuses(self, call, [((1, 2), (3, 4))], [(0, WRONG_RECTANGLES, BadRectangle)])
        refuses(self, is_rectangle, [None], [])


class Spans(unittest.TestCase):
    def test_by_hand(self):
        self.assertEqual(lift_spans(((3, 0),), ((3, 5),)), (((1, 3),), ((3, 6),)))
        self.assertEqual(lift_spans(((-1,),), ((4,),)), (((-1,),), ((4,),)))
        self.assertEqual(lift_spans(((0,), (-3,)), ((1,), (-1,))), (((1,), (-1,)), ((3,), (1,))))

    def test_all_rectangles_within_bounds(self):
        rng = random.Random(19)
        for height, width in SMALL_SIZES:
            for _ in range(12 if height * width < 6 else 3):
                self.go_through(rng, height, width)

    def go_through(self, rng, height, width):
        many = height * width
        lows = [rng.randint(-4, 4) for _ in range(many)]
        highs = [low + rng.randint(0, 3 if many < 6 else 2 if many < 7 else 1) for low in lows]
        bounds = rows_of(lows, height, width), rows_of(highs, height, width)
        kept = tuple(bounds)
        found = set()
        for numbers in itertools.product(*[range(low, high + 1) for low, high in zip(lows, highs)]):
            found.add(plain_unlifted(rows_of(numbers, height, width)))
        least = tuple(tuple(min(part[y][x] for part in found) for x in range(width)) for y in range(height))
        most = tuple(tuple(max(part[y][x] for part in found) for x in range(width)) for y in range(height))
        spans = lift_spans(*bounds)
        self.assertEqual(spans, (least, most))
        self.assertIsInstance(spans, tuple)
        for y in range(height):
            for x in range(width):
                for upper, ends in ((True, most), (False, least)):
                    end = lift_end(*bounds, y, x, upper)
                    self.assertIn(end, found)
                    self.assertEqual(end[y][x], ends[y][x])
        self.assertEqual(bounds, kept)

    def test_great_bounds(self):
        rng = random.Random(20)
        for height, width in [(1, 16), (16, 1), (7, 9), (16, 16)]:
            lows = chance(rng, height, width, 10 ** 11)
            highs = tuple(tuple(number + rng.choice([0, 1, rng.randint(0, 10 ** 9)]) for number in row) for row in lows)
            least, most = lift_spans(lows, highs)
            self.assertEqual(lift_spans(lows, lows), (unlifted(lows), unlifted(lows)))
            for _ in range(20):
                y, x = rng.randrange(height), rng.randrange(width)
                for upper, ends in ((True, most), (False, least)):
                    end = lift_end(lows, highs, y, x, upper)
                    self.assertEqual(end[y][x], ends[y][x])
                    for part, low, high in zip(lifted(end), lows, highs):
                        self.assertTrue(all(one <= number <= two for number, one, two in zip(part, low, high)))
                middle = unlifted(tuple(tuple(rng.randint(one, two) for one, two in zip(*pair))
                                        for pair in zip(lows, highs)))
                self.assertTrue(least[y][x] <= middle[y][x] <= most[y][x])

    def test_wrong_inputs(self):
        lows, highs = ((1, 2, 3), (4, 5, 6)), ((1, 2, 3), (4, 6, 6))
        spans = [thing for thing in WRONG_RECTANGLES] + [
            ((1, 2, 3),), ((1, 2), (4, 5)), ((1, 2, 3), (4, 5, 6), (7, 8, 9)), ((1, 4), (2, 5), (3, 6)),
            ((0, 2, 3), (4, 5, 6)), ((1, 2, 3), (4, 5, 5)), ((1, 2, 3), (4, 4, 9)), ((1, 2, 3, 4), (4, 5, 6, 7)),
            ((1, 2, 2), (9, 9, 9)), [[1, 2, 3], [4, 5, 6]], ((1, 2, 3), (4, True, 6)), ((1, 2, 3), (4, 5))]
        refuses(self, lift_spans, [lows, highs], [(0, WRONG_RECTANGLES, BadRectangle), (1, spans, BadSpans)])
        refuses(self, lift_end, [lows, highs, 1, 2, True], [
            (0, WRONG_RECTANGLES, BadRectangle), (1, spans, BadSpans), (2, wrong_numbers(0, 1), BadSpot),
            (3, wrong_numbers(0, 2), BadSpot), (4, [0, 1, None, "True", "", [], (), {}, SHAPE, (True,)], BadUpper)])
        raises(self, BadSpot, lift_end, [lows, highs, 2, 1, False])


class Errors(unittest.TestCase):
    def test_example(self):
        self.assertEqual(lift_errors(1, 3, 2), ((4, 4, 3),))

    def test_by_depth(self):
        for height, width in [(1, 1), (2, 2), (3, 5), (8, 8), (1, 16), (16, 5), (16, 16)]:
            inner = inner_areas(height, width)
            for loss in range(8):
                expected = tuple(tuple(
                    loss + sum(holds(area, y, x) for area in inner) * ceil(Fraction(loss, 2)) for x in range(width))
                    for y in range(height))
                self.assertEqual(lift_errors(height, width, loss), expected)

    def test_the_worst_ones_reach_them(self):
        for height, width in [(1, 1), (1, 2), (2, 1), (2, 2), (1, 3), (3, 2), (4, 4), (5, 7)]:
            for loss in range(8):
                errors = lift_errors(height, width, loss)
                for y in range(height):
                    for x in range(width):
                        rectangle = worst_lift(height, width, loss, y, x)
                        self.assertIs(is_rectangle(rectangle), True)
                        self.assertEqual((len(rectangle), len(rectangle[0])), (height, width))
                        self.assertEqual(abs(rectangle[y][x] - told(rectangle, loss)[y][x]), errors[y][x])

    def test_none_is_worse(self):
        rng = random.Random(21)
        for height, width in [(1, 1), (1, 2), (2, 2), (1, 3), (3, 2), (8, 8), (5, 3)]:
            for loss in range(8):
                errors = lift_errors(height, width, loss)
                for _ in range(30):
                    rectangle = chance(rng, height, width, rng.choice([loss + 1, 20, 10 ** 9]))
                    for row, others, most in zip(rectangle, told(rectangle, loss), errors):
                        self.assertTrue(all(abs(a - b) <= c for a, b, c in zip(row, others, most)))

    def test_all_small_ones(self):
        for height, width in [(1, 2), (2, 2), (1, 3)]:
            for loss in (0, 1, 2):
                rectangles = [rows_of(numbers, height, width) for numbers in rests_of(-3, 3, height * width)]
                pairs = [(rectangle, told(rectangle, loss)) for rectangle in rectangles]
                found = tuple(tuple(max(abs(a[y][x] - b[y][x]) for a, b in pairs) for x in range(width))
                              for y in range(height))
                self.assertEqual(lift_errors(height, width, loss), found)

    def test_wrong_inputs(self):
        for right in ([1, 1, 0], [16, 16, 7]):
            refuses(self, lift_errors, right, [
                (0, WRONG_SIZES, BadSize), (1, WRONG_SIZES, BadSize), (2, WRONG_LOSSES, BadLoss)])
        refuses(self, worst_lift, [3, 2, 7, 2, 1], [
            (0, WRONG_SIZES, BadSize), (1, WRONG_SIZES, BadSize), (2, WRONG_LOSSES, BadLoss),
            (3, wrong_numbers(0, 2), BadSpot), (4, wrong_numbers(0, 1), BadSpot)])


def told(rectangle, loss):
    """What is unlifted when each lifted number is told by its level with this loss."""
    step = 2 * loss + 1
    rows = plain_lifted(rectangle)
    return plain_unlifted(tuple(tuple(
        (abs(r) + loss) // step * step * (1 if r > 0 else -1) for r in row) for row in rows))


if __name__ == "__main__":
    unittest.main()
