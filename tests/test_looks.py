import inspect
import itertools
import random
import sys
import unittest

from helpers import NOTHINGS, all_spots, flat, plane_of, raises, refuses, with_sample, wrong_planes, wrong_shapes
from pricedreels.errors import BadReferences, BadRow, BadShape, BadSpot, TooMany
from pricedreels.grids import Shape, cells
from pricedreels.heads import Head
from pricedreels.looks import hangs_on, meaning, row_looks, row_play
from told import book_for, chance_head, chance_shape, chance_telling, looked_by_telling, plain_play

LINE = Shape(1, 2, 0, 3)
COPY = Head(1, 0, 0, 2, (2, 2, 0, 0, 0, 2, 0, 2))
ALONE = Head(0, 0, 0, 0, (1, 0, 0, 0, 0, 0, 0, 0))
BOTH = Head(2, 0, 0, 1, (2, 0, 0, 0, 0, 2, 2, 0))
ROOT = (0, 0, 8)
FLAT = ((ROOT, ("flat", "none", ())),)
STILL = ((ROOT, ("still",)),)
HALF = (((0, 0, 2), ("copy", 0, (0, 1), "none", ())),)
SHAPES = [Shape(1, 2, 0, 3), Shape(2, 2, 0, 1), Shape(1, 1, -2, 4), Shape(1, 3, 0, 2), Shape(2, 3, 0, 1), Shape(1, 2, 5, 5),
          Shape(1, 4, 0, 1), Shape(3, 1, 0, 2)]
WRONG_SPOTS = NOTHINGS + [LINE, (0, 2), (1, 0), (-1, 0), (0, -1), (0,), (0, 0, 0), [0, 0], (True, 0), (0, False), "00", (0, None)]


def chance_row(rng, shape, kind=None, many=None, most=3):
    many = rng.randint(1, 3) if many is None else many
    heads = [chance_head(rng, kind if many == 1 else 1, rng.choice([0, 0, 1])) for _ in range(many)]
    return [(head, chance_telling(rng, head, shape, most)) for head in heads]


def all_references(shape, row):
    rows = list(itertools.product(range(shape.low, shape.high + 1), repeat=shape.width))
    return list(itertools.product(itertools.product(rows, repeat=shape.height), repeat=row[0][0].kind))


def plain_row(shape, row, references):
    planes = list(references)
    for head, telling in row:
        planes = [plain_play(head, shape, telling, planes)[0]]
    return planes[0]


def plain_looks(shape, row):
    """For each spot the spots of references at which it looks."""
    seen = {(number,) + spot: {(number,) + spot} for number in range(row[0][0].kind) for spot in all_spots(shape)}
    for head, telling in row:
        told, found = looked_by_telling(shape, telling), {}

        def look(spot):
            if spot not in found:
                inside, outside = told[spot]
                found[spot] = set().union(*[look(other) for other in inside], *[seen[part] for part in outside])
            return found[spot]
        for spot in all_spots(shape):
            look(spot)
        seen = {(0,) + spot: found[spot] for spot in found}
    return {spot[1:]: part for spot, part in seen.items()}


def wrong_rows():
    """Values that are no rows of the line."""
    good = (COPY, STILL)
    parts = [None, True, 0, "x", (), [], {}, COPY, list(good), good[:1], good + (0,), (None, STILL), (COPY, None), (STILL, COPY),
             (COPY, list(STILL)), (ALONE, STILL), (COPY, ()), (COPY, (((0, 0, 8), ("copy", 1, (0, 0), "none", ())),)),
             (COPY, (((0, 0, 8), ("copy", 0, (0, 3), "none", ())),)), (COPY, (((0, 2, 2), ("still",)),))]
    found = [thing for thing in NOTHINGS] + [LINE, good, [good] * 4, {0: good}, [(ALONE, FLAT)] * 2, [good, (ALONE, FLAT)], [(ALONE, FLAT), good],
                                            [(BOTH, FLAT), good], [good, (BOTH, FLAT)], [(BOTH, FLAT)] * 2, [good, good, (ALONE, FLAT)]]
    return found + [[part] for part in parts] + [[good, part] for part in parts] + [[good, good, part] for part in parts]


class Rows(unittest.TestCase):
    def test_play(self):
        rng = random.Random(701)
        for _ in range(80):
            shape = chance_shape(rng, 5)
            row = chance_row(rng, shape, most=30)
            references = [plane_of(shape, rng) for _ in range(row[0][0].kind)]
            self.assertEqual(row_play(shape, row, references), plain_row(shape, row, references))
            self.assertEqual(row_play(shape, tuple(row), tuple(references)), plain_row(shape, row, references))

    def test_looks(self):
        rng = random.Random(702)
        for _ in range(60):
            shape = chance_shape(rng, 5)
            row = chance_row(rng, shape)
            expected = plain_looks(shape, row)
            for spot in rng.sample(all_spots(shape), min(6, len(all_spots(shape)))):
                self.assertEqual(row_looks(shape, row, spot), tuple(sorted(expected[spot])))

    def test_wrong_inputs(self):
        plane = ((0, 3),)
        for call, more in ((row_play, [[plane]]), (row_looks, [(0, 1)]), (hangs_on, [(0, 1)]), (meaning, [(0, 1)])):
            refuses(self, call, [LINE, [(COPY, STILL)] * 3] + more, [(0, wrong_shapes(), BadShape, {"part": None}), (1, wrong_rows(), BadRow)])
            for row in wrong_rows():
                raises(self, BadRow, call, [LINE, row, None])
            if call is not row_play:
                refuses(self, call, [LINE, [(COPY, STILL)], (0, 0)], [(2, WRONG_SPOTS, BadSpot)])
        references = [None, True, 0, {}, "x", (), [], plane, [plane, plane]] + [[wrong] for wrong in wrong_planes(LINE)]
        refuses(self, row_play, [LINE, [(COPY, STILL)] * 2, [plane]], [(2, references, BadReferences)])
        for row, good in (([(ALONE, FLAT)], []), ([(BOTH, FLAT)], [plane, plane])):
            row_play(LINE, row, good)
            for wrong in (good + [plane], [None] * len(good) + [plane], None, {}):
                raises(self, BadReferences, row_play, [LINE, row, wrong])


class Meanings(unittest.TestCase):
    def test_example(self):
        row = [(COPY, HALF)]
        self.assertEqual(meaning(LINE, row, (0, 0)), (((0, 0, 0), (0, 0, 1)), (
            ((0, 2), (1, 1), (2, 0)), ((1, 3), (2, 2), (3, 1)), ((3, 3),))))
        self.assertEqual(meaning(LINE, row, (0, 1)), (((0, 0, 1),), (((1,),), ((2,),), ((3,),))))
        for a, b in itertools.product(range(4), repeat=2):
            self.assertEqual(row_play(LINE, row * 2, [((a, b),)]), (((((a + b) // 2) + b) // 2, b),))

    def test_by_all_references(self):
        rng = random.Random(703)
        for trial in range(120):
            shape = SHAPES[trial % len(SHAPES)]
            row = chance_row(rng, shape, rng.choice([0, 1, 1, 2]) if shape.height * shape.width < 4 else 1, most=2)
            kind = row[0][0].kind
            shown = {references: plain_row(shape, row, references) for references in all_references(shape, row)}
            looked = plain_looks(shape, row)
            for y, x in all_spots(shape):
                hanging = []
                for place in [(number,) + spot for number in range(kind) for spot in all_spots(shape)]:
                    seen = {}
                    for references, plane in shown.items():
                        planes = list(references)
                        planes[place[0]] = with_sample(planes[place[0]], place[1:], shape.low)
                        seen.setdefault(tuple(planes), set()).add(plane[y][x])
                    if any(len(part) > 1 for part in seen.values()):
                        hanging.append(place)
                self.assertEqual(hangs_on(shape, row, (y, x)), tuple(hanging))
                self.assertLessEqual(set(hanging), looked[(y, x)])
                stands = {}
                for references, plane in shown.items():
                    stands[tuple(references[number][a][b] for number, a, b in hanging)] = plane[y][x]
                steps = []
                for number in range(shape.low + 1, shape.high + 1):
                    reach = [stand for stand, sample in stands.items() if sample >= number]
                    steps.append(tuple(sorted(stand for stand in reach if not any(
                        other != stand and all(a <= b for a, b in zip(other, stand)) for other in reach))))
                self.assertEqual(meaning(shape, row, (y, x)), (tuple(hanging), tuple(steps)))
                # The sample is the greatest number for which some least stand has no number above the samples there.
                for stand, sample in stands.items():
                    told = [shape.low + at + 1 for at, part in enumerate(steps) if any(
                        all(a <= b for a, b in zip(least, stand)) for least in part)]
                    self.assertEqual(sample, max([shape.low] + told))
                same = row_play(shape, row, [flat(shape, shape.low)] * kind)[y][x] == row_play(
                    shape, row, [flat(shape, shape.high)] * kind)[y][x]
                self.assertEqual(same, hanging == [])

    def test_references_on_which_nothing_hangs(self):
        great = [(COPY, ((ROOT, ("copy", 0, (0, 1), "plain", (9, -9))),))]
        self.assertEqual(row_looks(LINE, great, (0, 0)), ((0, 0, 0), (0, 0, 1)))
        self.assertEqual(meaning(LINE, great, (0, 0)), ((), (((),), ((),), ((),))))
        self.assertEqual(meaning(LINE, great, (0, 1)), ((), ((), (), ())))
        self.assertEqual(meaning(LINE, [(ALONE, FLAT)], (0, 0)), ((), (((),), (), ())))
        # Once the mean is taken down it is 0 but for the greatest numbers.
        low = [(COPY, ((ROOT, ("copy", 0, (0, 1), "plain", (-2, 0))),))]
        self.assertEqual(meaning(LINE, low, (0, 0)), (((0, 0, 0), (0, 0, 1)), (((3, 3),), (), ())))
        # It looks at both samples and hangs on neither, or on one.
        self.assertEqual(hangs_on(Shape(1, 2, 0, 1), [(COPY, ((ROOT, ("copy", 0, (0, 1), "plain", (-1, 0))),))], (0, 0)), ())

    def test_hangs_on_one_of_those_at_which_it_looks(self):
        shape = Shape(2, 4, 0, 3)
        for levels, row in (((0, 9, 0, 0), 1), ((0, 0, 0, 9), 0), ((0, 9, 0, 9), None), ((0, 0, 0, 0), 2)):
            telling = (((0, 0, 2), ("copy", 0, (0, 0), "plain", levels)), ((0, 2, 2), ("mean", "none", ())))
            head = Head(1, 0, 0, 0, book_for(1))
            expected = {1: ((0, 1, 1),), 0: ((0, 0, 1),), 2: ((0, 0, 1), (0, 1, 1)), None: ()}[row]
            self.assertEqual(row_looks(shape, [(head, telling)], (1, 3)), ((0, 0, 1), (0, 1, 1)))
            self.assertEqual(hangs_on(shape, [(head, telling)], (1, 3)), expected)
            if len(expected) == 1:
                self.assertEqual(meaning(shape, [(head, telling)], (1, 3)), (expected, (((0,),), ((1,),), ((3,),))))

    def test_no_deep_recursion(self):
        shape = Shape(16, 16, 0, 1)
        head = Head(1, 0, 0, 0, book_for(1))
        told = tuple((cell, ("copy", 0, (0, 0), "none", ()) if cell[:2] == (0, 0) else ("left" if cell[1] else "up", "none", ()))
                     for cell in cells(shape))
        limit = sys.getrecursionlimit()
        try:
            sys.setrecursionlimit(len(inspect.stack()) + 30)
            found = meaning(shape, [(head, told)] * 3, (15, 15))
        finally:
            sys.setrecursionlimit(limit)
        self.assertEqual(found, (((0, 1, 1),), (((1,),),)))

    def test_limits(self):
        # Twelve samples of two values, two of 64, one of 1024 are just not too many.
        shape, row = seen_row(6)
        self.assertEqual(len(row_looks(shape, row, (8, 0))), 12)
        self.assertEqual(hangs_on(shape, row, (8, 0)), row_looks(shape, row, (8, 0)))
        self.assertEqual(len(meaning(shape, row, (8, 0))[0]), 12)
        shape, row = seen_row(7)
        self.assertEqual(len(row_looks(shape, row, (8, 0))), 13)
        for call in (hangs_on, meaning):
            raises(self, TooMany, call, [shape, row, (8, 0)], most=4096)
            raises(self, BadSpot, call, [shape, row, (8, 7)])
            call(shape, row, (0, 0))
        pair = [(COPY, ((ROOT, ("copy", 0, (0, 1), "none", ())),))]
        self.assertEqual(len(meaning(Shape(1, 2, 0, 63), pair, (0, 0))[1]), 63)
        raises(self, TooMany, meaning, [Shape(1, 2, 0, 64), pair, (0, 0)], most=4096)
        self.assertEqual(meaning(Shape(1, 2, -512, 511), pair, (0, 1)),
                         (((0, 0, 1),), tuple(((number,),) for number in range(-511, 512))))
        raises(self, TooMany, hangs_on, [Shape(1, 2, -512, 511), pair, (0, 0)], most=4096)
        # With one value alone nothing is too many.
        _, row = seen_row(7)
        self.assertEqual(meaning(Shape(13, 7, 4, 4), row, (8, 0)), ((), ()))
        self.assertEqual(hangs_on(Shape(13, 7, 4, 4), row, (8, 0)), ())


def seen_row(width):
    """A shape of two values and a row, in which the root below has the mean of means of two samples."""
    stays, between = ("copy", 0, (0, 0), "none", ()), ("copy", 0, (1, 0), "none", ())
    told = [((0, 0, 4), stays), ((0, 4, 4), stays), ((4, 0, 4), between)]
    told += [((top, left, 2), between if left == 4 else stays) for top in (4, 6) for left in (4, 6) if left < width]
    return Shape(13, width, 0, 1), [(Head(1, 0, 0, 4, book_for(1)), tuple(told + [((8, 0, 8), ("mean", "none", ()))]))]


if __name__ == "__main__":
    unittest.main()
