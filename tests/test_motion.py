import itertools
import random
import unittest

from helpers import (HEAD, NOTHINGS, SHAPE, all_blocks, all_spots, plane_of, raises, refuses, wrong_blocks,
                     wrong_numbers, wrong_planes, wrong_shapes)
from pricedreels.copies import sample_at
from pricedreels.errors import BadBlock, BadCut, BadLeast, BadPlane, BadReach, BadShape, BadVector
from pricedreels.grids import Shape, flat_plane, spots
from pricedreels.motion import (best_vectors, cut_bound, cut_paper, difference, differences, fewest_squares,
                                is_cut_paper, is_spots_paper, spots_paper)
from told import vectors

PAIR = Shape(2, 2, 0, 9)
NOW, THEN = ((5, 1), (1, 5)), ((3, 3), (3, 3))
NO_SHAPE = (0, wrong_shapes(), BadShape, {"part": None})
NO_NOW = (1, wrong_planes(SHAPE), BadPlane)
NO_THEN = (2, wrong_planes(SHAPE), BadPlane)
NO_BLOCK = (3, wrong_blocks(SHAPE), BadBlock)
NO_VECTOR = (4, NOTHINGS + [0, (9, 0), (0, 9), (-9, 0), (0, -9), [0, 0], (0, 0, 0), (True, 0), (0, None)], BadVector)
NO_REACH = (4, wrong_numbers(0, 4), BadReach)


def aparts(shape, now, then, block, vector):
    """What now and the copy are apart, plainly, spot by spot."""
    return {(y, x): abs(now[y][x] - sample_at(shape, then, 2 * y + vector[0], 2 * x + vector[1]))
            for y, x in spots(shape, block)}


def plain_difference(shape, now, then, block, vector):
    return sum(aparts(shape, now, then, block, vector).values())


def lies_in(spot, square):
    return all(square[at] <= spot[at] < square[at] + square[2] for at in range(2))


def plain_bound(shape, now, then, block, vector, cut):
    total = 0
    for square in cut:
        inside = [(y, x) for y, x in all_spots(shape) if lies_in((y, x), square)]
        total += abs(sum(now[y][x] for y, x in inside) -
                     sum(sample_at(shape, then, 2 * y + vector[0], 2 * x + vector[1]) for y, x in inside))
    return total


def all_cuts(shape, square):
    """All cuts of a square, each a list."""
    found = [[square]]
    if square[2] > 1:
        half = square[2] // 2
        parts = [(y, x, half) for y in (square[0], square[0] + half) for x in (square[1], square[1] + half)
                 if any(lies_in(spot, (y, x, half)) for spot in all_spots(shape))]
        found += [sum(row, []) for row in itertools.product(*[all_cuts(shape, part) for part in parts])]
    return found


def chance_cut(rng, shape, square):
    if square[2] == 1 or rng.random() < 0.4:
        return [square]
    half = square[2] // 2
    parts = [(y, x, half) for y in (square[0], square[0] + half) for x in (square[1], square[1] + half)
             if y < shape.height and x < shape.width]
    return [other for part in parts for other in chance_cut(rng, shape, part)]


def chance(rng, most=10):
    low = rng.randint(-5, 2)
    shape = Shape(rng.randint(1, most), rng.randint(1, most), low, rng.randint(low, low + 20))
    return shape, plane_of(shape, rng), plane_of(shape, rng), rng.choice(all_blocks(shape))


class Differences(unittest.TestCase):
    def test_by_hand(self):
        self.assertEqual(difference(PAIR, NOW, THEN, (0, 0, 2), (0, 0)), 8)
        shape = Shape(1, 4, 0, 9)
        now, then = ((1, 2, 3, 4),), ((2, 3, 4, 9),)
        self.assertEqual(difference(shape, now, then, (0, 0, 8), (0, 0)), 1 + 1 + 1 + 5)
        self.assertEqual(difference(shape, now, then, (0, 0, 8), (0, -2)), 1 + 0 + 0 + 0)
        self.assertEqual(difference(shape, now, then, (0, 2, 2), (3, -1)), 0 + 2)
        self.assertEqual(difference(shape, now, then, (0, 2, 2), (0, -8)), 1 + 2)
        found = differences(shape, now, then, (0, 0, 8), 2)
        self.assertEqual([found[(0, dx)] for dx in range(-2, 3)], [1, 1 + 2, 8, 1 + 1 + 3 + 5, 2 + 2 + 6 + 5])
        self.assertEqual(best_vectors(shape, now, then, (0, 0, 8), 2), [(dy, -2) for dy in range(-2, 3)])
        self.assertEqual(best_vectors(shape, now, then, (0, 0, 8), 0), [(0, 0)])

    def test_by_the_document(self):
        rng = random.Random(61)
        for _ in range(120):
            shape, now, then, block = chance(rng)
            reach = rng.randrange(5)
            found = differences(shape, now, then, block, reach)
            self.assertEqual(list(found), vectors(reach))
            for vector in vectors(reach):
                self.assertEqual(found[vector], plain_difference(shape, now, then, block, vector))
            self.assertEqual(best_vectors(shape, now, then, block, reach),
                             [vector for vector in vectors(reach) if found[vector] == min(found.values())])
            vector = (rng.randint(-8, 8), rng.randint(-8, 8))
            self.assertEqual(difference(shape, now, then, block, vector),
                             plain_difference(shape, now, then, block, vector))

    def test_wrong_inputs(self):
        right = [SHAPE, flat_plane(SHAPE, 3), flat_plane(SHAPE, 4), (0, 0, 4)]
        refuses(self, difference, right + [(8, -8)], [NO_SHAPE, NO_NOW, NO_THEN, NO_BLOCK, NO_VECTOR])
        for call in (differences, best_vectors, spots_paper, cut_paper):
            refuses(self, call, right + [4], [NO_SHAPE, NO_NOW, NO_THEN, NO_BLOCK, NO_REACH])
        for call in (is_spots_paper, is_cut_paper):
            refuses(self, call, right + [0, None], [NO_SHAPE, NO_NOW, NO_THEN, NO_BLOCK, NO_REACH])


class Spots(unittest.TestCase):
    def test_by_hand(self):
        shape = Shape(1, 4, 0, 9)
        now, then = ((0, 9, 0, 9),), ((0, 3, 2, 4),)
        self.assertEqual(spots_paper(shape, now, then, (0, 0, 8), 0), (13, {(0, 0): ((0, 1), (0, 2), (0, 3))}))
        least, chosen = spots_paper(shape, now, now, (0, 0, 8), 1)
        self.assertEqual((least, chosen), (0, {vector: () for vector in vectors(1)}))

    def test_as_few_as_can_be(self):
        rng = random.Random(62)
        for _ in range(60):
            shape, now, then, block = chance(rng, 3)
            reach = rng.randrange(3)
            least, chosen = spots_paper(shape, now, then, block, reach)
            self.assertEqual(least, min(differences(shape, now, then, block, reach).values()))
            self.assertEqual(list(chosen), vectors(reach))
            for vector, told in chosen.items():
                apart = aparts(shape, now, then, block, vector)
                enough = [len(row) for many in range(len(apart) + 1) for row in itertools.combinations(apart, many)
                          if sum(apart[spot] for spot in row) >= least]
                self.assertEqual(len(told), min(enough))
                self.assertEqual(list(told), sorted(set(told)))
                self.assertGreaterEqual(sum(apart[spot] for spot in told), least)

    def test_larger_ones(self):
        rng = random.Random(63)
        for _ in range(40):
            shape, now, then, block = chance(rng, 12)
            reach = rng.randrange(5)
            least, chosen = paper = spots_paper(shape, now, then, block, reach)
            self.assertIs(is_spots_paper(shape, now, then, block, reach, paper), True)
            self.assertIs(is_spots_paper(shape, now, then, block, reach, (least - 1, chosen)), True)
            self.assertIs(is_spots_paper(shape, now, then, block, reach, (least + 1, chosen)),
                          all(self.reaches(shape, now, then, block, chosen, least + 1)))
            self.assertIs(is_spots_paper(shape, now, then, block, reach, (
                least + 1, {vector: tuple(spots(shape, block)) for vector in chosen})), False)
            for vector, told in chosen.items():
                ordered = sorted(aparts(shape, now, then, block, vector).values(), reverse=True)
                self.assertGreaterEqual(sum(ordered[:len(told)]), least)
                self.assertTrue(not told or sum(ordered[:len(told) - 1]) < least)
                if told:
                    self.assertIs(is_spots_paper(shape, now, then, block, reach, (
                        least, {**chosen, vector: told[:-1]})), sum(aparts(shape, now, then, block, vector)[spot]
                                                                     for spot in told[:-1]) >= least)

    def reaches(self, shape, now, then, block, chosen, least):
        return [sum(aparts(shape, now, then, block, vector)[spot] for spot in told) >= least
                for vector, told in chosen.items()]

    def test_values_that_are_none(self):
        block = (0, 0, 4)
        shape = Shape(3, 5, 0, 9)
        now, then = flat_plane(shape, 9), flat_plane(shape, 0)

        def judged(thing, reach=1):
            return is_spots_paper(shape, now, then, block, reach, thing)
        two = {vector: ((0, 0), (0, 1)) for vector in vectors(1)}
        self.assertIs(judged((18, two)), True)
        self.assertIs(judged((-3, {vector: () for vector in two})), True)
        self.assertIs(judged((9, {**two, (0, 0): ((2, 3),)})), True)
        self.assertIs(judged((19, two)), False)
        self.assertIs(judged((18, {**two, (0, 0): ((2, 3),)})), False)
        for thing in NOTHINGS + [SHAPE, two, [18, two], (18,), (18, two, 0), (two, 18), (18, list(two.items()))]:
            self.assertIs(judged(thing), False, thing)
        for least in (None, True, False, "0", (0,), [0], SHAPE):
            self.assertIs(judged((least, two)), False)
        rest = {vector: told for vector, told in two.items() if vector != (0, 1)}
        for key in ((0, True), (False, 1), (0, 2), (0, 1, 0), "01", None, 1, ((0,), 1)):
            self.assertIs(judged((0, {**rest, key: two[(0, 1)]})), False)
            self.assertIs(judged((0, {**two, **({key: ()} if key not in two else {"x": ()})})), False)
        self.assertIs(judged((0, rest)), False)
        self.assertIs(judged((0, two), 0), False)
        self.assertIs(judged((0, two), 2), False)
        for told in [None, True, 0, [], "", {}, [(0, 0), (0, 1)], ((0, 1), (0, 0)), ((0, 0), (0, 0)), ((0, 4),),
                     ((3, 0),), ((0, -1),), ((0, True),), ((False, 0),), ((0,),), ((0, 0, 0),), ([0, 0],), (None,),
                     ((0, 0), ((0,), 1)), (((0,), 0), (0, 1)), ((0, "0"),), ((0, 0), None), (0, 0), ((0, 0), "x")]:
            self.assertIs(judged((0, {**two, (0, 1): told})), False, told)


class Cuts(unittest.TestCase):
    def test_example(self):
        for least, many in ((-5, 1), (0, 1), (1, 4), (8, 4), (9, None), (10 ** 11, None)):
            self.assertEqual(fewest_squares(PAIR, NOW, THEN, (0, 0, 2), (0, 0), least), many)
        self.assertEqual(cut_bound(PAIR, NOW, THEN, (0, 0, 2), (0, 0), ((0, 0, 2),)), 0)
        singles = ((0, 0, 1), (0, 1, 1), (1, 0, 1), (1, 1, 1))
        self.assertEqual(cut_bound(PAIR, NOW, THEN, (0, 0, 2), (0, 0), singles), 8)
        self.assertEqual(cut_paper(PAIR, NOW, THEN, (0, 0, 2), 0), (8, {(0, 0): singles}))
        self.assertEqual(cut_paper(PAIR, NOW, NOW, (0, 0, 2), 0), (0, {(0, 0): ((0, 0, 2),)}))

    def test_all_cuts(self):
        rng = random.Random(64)
        for height, width in [(1, 1), (1, 2), (2, 2), (3, 2), (3, 3), (2, 4), (4, 4), (5, 1), (1, 9)]:
            shape = Shape(height, width, 0, 9)
            for block in all_blocks(shape):
                now, then, vector = plane_of(shape, rng), plane_of(shape, rng), (rng.randint(-8, 8), rng.randint(-8, 8))
                cuts = [tuple(sorted(cut)) for cut in all_cuts(shape, block)]
                bounds = {cut: plain_bound(shape, now, then, block, vector, cut) for cut in cuts}
                for cut in rng.sample(cuts, min(12, len(cuts))):
                    self.assertEqual(cut_bound(shape, now, then, block, vector, cut), bounds[cut])
                whole = plain_difference(shape, now, then, block, vector)
                self.assertLessEqual(max(bounds.values()), whole)
                self.assertEqual(bounds[tuple((y, x, 1) for y, x in spots(shape, block))], whole)
                for least in range(-1, whole + 2):
                    many = [len(cut) for cut in cuts if bounds[cut] >= least]
                    self.assertEqual(fewest_squares(shape, now, then, block, vector, least), min(many, default=None))
                least, told = cut_paper(shape, now, then, block, 0)
                self.assertEqual(least, plain_difference(shape, now, then, block, (0, 0)))
                enough = [len(cut) for cut in cuts if plain_bound(shape, now, then, block, (0, 0), cut) >= least]
                self.assertEqual(len(told[(0, 0)]), min(enough))
                self.assertIn(told[(0, 0)], cuts)

    def test_larger_ones(self):
        rng = random.Random(65)
        for _ in range(40):
            shape, now, then, block = chance(rng, 12)
            reach = rng.randrange(4)
            least, cuts = paper = cut_paper(shape, now, then, block, reach)
            self.assertEqual(least, min(differences(shape, now, then, block, reach).values()))
            self.assertEqual(list(cuts), vectors(reach))
            self.assertIs(is_cut_paper(shape, now, then, block, reach, paper), True)
            self.assertIs(is_cut_paper(shape, now, then, block, reach, (least - 1, cuts)), True)
            singles = tuple((y, x, 1) for y, x in spots(shape, block))
            self.assertIs(is_cut_paper(shape, now, then, block, reach, (least, {vector: singles for vector in cuts})),
                          True)
            self.assertIs(is_cut_paper(shape, now, then, block, reach, (
                least + 1, {vector: singles for vector in cuts})), False)
            for vector, cut in cuts.items():
                self.assertGreaterEqual(plain_bound(shape, now, then, block, vector, cut), least)
                self.assertEqual(len(cut), fewest_squares(shape, now, then, block, vector, least))
                other = tuple(sorted(chance_cut(rng, shape, block)))
                bound = plain_bound(shape, now, then, block, vector, other)
                self.assertEqual(cut_bound(shape, now, then, block, vector, other), bound)
                self.assertTrue(len(other) >= len(cut) or bound < least)
                self.assertIs(is_cut_paper(shape, now, then, block, reach, (least, {**cuts, vector: other})),
                              bound >= least)

    def test_quartering_never_lowers_a_bound(self):
        rng = random.Random(66)
        for _ in range(80):
            shape, now, then, block = chance(rng, 9)
            vector = (rng.randint(-8, 8), rng.randint(-8, 8))
            cut = chance_cut(rng, shape, block)
            square = rng.choice(cut)
            finer = [other for other in cut if other != square] + (
                [square] if square[2] == 1 else
                [(y, x, square[2] // 2) for y in (square[0], square[0] + square[2] // 2)
                 for x in (square[1], square[1] + square[2] // 2) if y < shape.height and x < shape.width])
            bounds = [cut_bound(shape, now, then, block, vector, tuple(sorted(told))) for told in (cut, finer)]
            self.assertLessEqual(*bounds)

    def wrong_cuts(self):
        """Values that are no cuts of the block (0, 4, 4) of SHAPE, of which it has the column 4 alone."""
        return NOTHINGS + [
            SHAPE, ((0, 0, 8),), ((0, 4, 2),), [(0, 4, 4)], ([0, 4, 4],), ((0, 4, 4), (0, 4, 4)), ((2, 4, 2), (0, 4, 2)),
            ((0, 4, 2), (2, 4, 2), (2, 6, 2)), ((0, 4, 2), (0, 6, 2), (2, 4, 2), (2, 6, 2)), ((0, 4, 2), (2, 4, 1), (2, 4, 2)),
            ((0, 4, 1), (0, 4, 2), (1, 4, 1), (2, 4, 2)), ((0, 4, 4), (0, 4, 2)), ((0, 4),), ((0, 4, 4, 0),), (0, 4, 4),
            ((False, 4, 4),), ((0, 4, 4), None), ((0, 4, "4"),), ((0, 4, 1), (1, 4, 1), (2, 4, 1), (3, 4, 1)),
            ((0, 4, 1), (2, 4, 2)), ((0, 4, 1), (1, 4, 1)), ((0, 4, True), (1, 4, 1), (2, 4, 1)),
            ((0, 4, 2), (2, (4,), 2)), ((0, 4, 2), (2, 4, 3)), ((0, 4, 0),), "044", {(0, 4, 4): 1},
            (((0,), 4, 4), (0, 4, 4))]

    def test_values_that_are_none(self):
        now, then, block = flat_plane(SHAPE, 9), flat_plane(SHAPE, 0), (0, 4, 4)
        cuts = [((0, 4, 4),), ((0, 4, 2), (2, 4, 2)), ((0, 4, 1), (1, 4, 1), (2, 4, 2)), ((0, 4, 2), (2, 4, 1)),
                ((0, 4, 1), (1, 4, 1), (2, 4, 1))]
        for cut in cuts:
            self.assertEqual(cut_bound(SHAPE, now, then, block, (0, 0), cut), 27)
        two = {vector: cuts[1] for vector in vectors(1)}
        self.assertIs(is_cut_paper(SHAPE, now, then, block, 1, (27, two)), True)
        self.assertIs(is_cut_paper(SHAPE, now, then, block, 1, (28, two)), False)
        for cut in self.wrong_cuts():
            self.assertIs(is_cut_paper(SHAPE, now, then, block, 1, (0, {**two, (1, 0): cut})), False, cut)
        rest = {vector: told for vector, told in two.items() if vector != (0, 1)}
        for key in ((0, True), (False, 1), (0, 2), (0, 1, 0), "01", None, 1):
            self.assertIs(is_cut_paper(SHAPE, now, then, block, 1, (0, {**rest, key: cuts[0]})), False)
        for thing in NOTHINGS + [SHAPE, two, [0, two], (0,), (0, two, 0), (two, 0), (0, rest), (0, {**two, "x": cuts[0]})]:
            self.assertIs(is_cut_paper(SHAPE, now, then, block, 1, thing), False, thing)
        for least in (None, True, False, "0", (0,), SHAPE):
            self.assertIs(is_cut_paper(SHAPE, now, then, block, 1, (least, two)), False)

    def test_wrong_inputs(self):
        right = [SHAPE, flat_plane(SHAPE, 3), flat_plane(SHAPE, 4), (0, 4, 4), (-8, 8)]
        checks = [NO_SHAPE, NO_NOW, NO_THEN, NO_BLOCK, NO_VECTOR]
        refuses(self, cut_bound, right + [((0, 4, 4),)], checks + [(5, self.wrong_cuts(), BadCut)])
        refuses(self, fewest_squares, right + [3], checks + [
            (5, [None, True, False, "0", (0,), [], SHAPE, {}, HEAD], BadLeast)])
        raises(self, BadCut, cut_bound, right[:3] + [(0, 0, 8), (0, 0), ((0, 4, 4),)])
        self.assertEqual(fewest_squares(*right, -10 ** 11), 1)


if __name__ == "__main__":
    unittest.main()
