import itertools
import random
import unittest

from helpers import (NOTHINGS, SHAPE, all_spots, plane_of, raises, refuses, with_sample, wrong_numbers, wrong_planes,
                     wrong_shapes)
from pricedreels.bits import grade_bits, long_bits
from pricedreels.copies import sample_at
from pricedreels.errors import BadHead, BadPlace, BadReferences, BadShape, BadPlane, BadTelling, BadVector, TooMany
from pricedreels.fewest import best_grade, fewest, is_fewest, is_prices, made, many_fewest, prices, steps_from
from pricedreels.grids import Shape, blocks_at, cells, flat_plane, is_cover, place_of, quarters, roots, spots
from pricedreels.heads import Head, words_of
from pricedreels.lifts import lifted
from pricedreels.losses import level_of
from pricedreels.tellings import bits_of, does_fit, is_telling, play, read_telling, worth
from told import (book_for, chance_book, chance_references, chance_telling, full_head, guesses_for, items_of_choice,
                  many_cells, plain_bits, plain_play, standing, starts, vector_behind, vectors)

START = (0, (0, 0))
SMALL = Shape(2, 4, 0, 9)
NO_HEAD = (0, [thing for thing in NOTHINGS if not isinstance(thing, Head)] + [0, SHAPE], BadHead, {"part": None})
LOSSY = (0, [full_head(1, loss) for loss in (1, 7)], BadHead, {"part": "loss"})
NO_SHAPE = (1, wrong_shapes(), BadShape, {"part": None})


def lossless(rng, kind, reach, grade=None):
    book = rng.choice([book_for(kind), chance_book(rng, kind)])
    return Head(kind, 0, rng.randrange(4) if grade is None else grade, reach, book)


def chance_case(rng, most=6, kind=None, reach=None):
    """A head, a shape, a plane and references, alike enough for copies to be of use."""
    low = rng.randint(-4, 2)
    shape = Shape(rng.randint(1, most), rng.randint(1, most), low, rng.randint(low, low + 6))
    head = lossless(rng, rng.randrange(3) if kind is None else kind, rng.randrange(3) if reach is None else reach)
    plane = plane_of(shape, rng)
    references = []
    for _ in range(head.kind):
        other = plane
        for spot in rng.sample(all_spots(shape), min(2, shape.height * shape.width)):
            other = with_sample(other, spot, rng.randint(shape.low, shape.high))
        references.append(rng.choice([other, plane_of(shape, rng)]))
    return head, shape, plane, references


def plane_moved(shape, vector, plane):
    """The plane that copies by the vector show."""
    dy, dx = vector
    return tuple(tuple(sample_at(shape, plane, 2 * y + dy, 2 * x + dx) for x in range(shape.width))
                 for y in range(shape.height))


def lifted_levels(shape, block, rests):
    width = len({x for _, x in spots(shape, block)})
    rows = tuple(tuple(rests[at:at + width]) for at in range(0, len(rests), width))
    return tuple(number for row in lifted(rows) for number in row)


def plain_cost(head, shape, block, choice, last):
    """The bits of the choice, and those for quarters that come with the block."""
    larger = [other for other in blocks_at(shape, place_of(shape, block)[0]) if other[2] > block[2]]
    return len(larger) + (block[2] > 2) + len("".join(items_of_choice(head, choice, last)))


def plain_steps(head, shape, plane, references, place, last):
    """All bare steps from a node, plainly."""
    found = []
    for block in blocks_at(shape, place):
        samples = [plane[y][x] for y, x in spots(shape, block)]
        for start in starts(head, shape, block):
            guesses = guesses_for(shape, block, start, last, plane, references)
            rests = tuple(sample - guessed for sample, guessed in zip(samples, guesses))
            choices = [start + ("none", ())] if not any(rests) else []
            choices += [start + ("plain", rests), start + ("lifted", lifted_levels(shape, block, rests))]
            if start == ("still",):
                choices = [start] if not any(rests) else []
            found += [(block, choice, plain_cost(head, shape, block, choice, last)) for choice in choices]
    return found


def plain_nodes(head, shape):
    return [(place, vector) for place in range(many_cells(shape)) for vector in vectors(head.reach if head.kind else 0)]


def plain_prices(head, shape, plane, references):
    """The prices and the number of the cheapest ways, by all steps from all nodes."""
    found, ways = {}, {}
    for node in reversed(plain_nodes(head, shape)):
        totals = []
        for block, choice, cost in plain_steps(head, shape, plane, references, *node):
            behind = (place_of(shape, block)[1], vector_behind(choice, node[1]))
            totals.append((cost + found.get(behind, 0), ways.get(behind, 1)))
        found[node] = min(total for total, _ in totals)
        ways[node] = sum(many for total, many in totals if total == found[node])
    return found, ways[START]


def all_covers(shape):
    """All covers of a shape with few cells."""
    def ways(blocks):
        if not blocks:
            return [[]]
        first = [[blocks[0]]] + (ways(quarters(shape, blocks[0])) if quarters(shape, blocks[0]) else [])
        return [one + other for one in first for other in ways(blocks[1:])]
    return ways(roots(shape))


def all_tellings(head, shape, levels):
    """All tellings with levels from these."""
    for cover in all_covers(shape):
        choices = []
        for block in cover:
            many = len(spots(shape, block))
            told = []
            for start in starts(head, shape, block):
                if start == ("still",):
                    told.append(start)
                    continue
                told.append(start + ("none", ()))
                told += [start + (way, row) for way in ("plain", "lifted")
                         for row in itertools.product(levels, repeat=many)]
            choices.append(told)
        for row in itertools.product(*choices):
            yield tuple(zip(cover, row))


class Trials(unittest.TestCase):
    def test_all_tellings(self):
        # Of each plane the fewest bits are those of the shortest of all tellings that fit and show it.
        rng = random.Random(41)
        cases = [(Head(0, 0, 0, 0, (1, 2, 0, 0, 3, 0, 0, 0)), Shape(1, 3, 0, 1), range(-2, 3), []),
                 (Head(1, 0, 1, 1, (2, 0, 0, 0, 0, 1, 0, 2)), Shape(1, 2, 0, 2), range(-4, 5), [((2, 0),)]),
                 (Head(2, 0, 0, 0, (3, 3, 0, 0, 3, 2, 2, 3)), Shape(1, 2, -1, 1), range(-4, 5), [((1, 0),), ((1, 1),)]),
                 (Head(1, 0, 0, 1, (1, 0, 0, 0, 0, 2, 0, 2)), Shape(2, 1, 0, 1), range(-2, 3), [((1,), (0,))])]
        for head, shape, levels, references in cases:
            least = {}
            for telling in all_tellings(head, shape, levels):
                plane, fits = plain_play(head, shape, telling, references)
                if fits:
                    bits = len(plain_bits(head, shape, telling))
                    least[plane] = min(bits, least.get(plane, bits))
            self.assertEqual(len(least), (shape.high - shape.low + 1) ** (shape.height * shape.width))
            for plane, bits in least.items():
                self.assertEqual(prices(head, shape, plane, references)[START], bits)
                self.assertEqual(worth(head, shape, fewest(head, shape, plane, references)), bits)
            plane = rng.choice(list(least))
            self.assertEqual(best_grade(head, shape, plane, references)[0] <= least[plane], True)

    def test_tellings_are_the_ways_of_steps(self):
        # All tellings with bare steps alone, counted, and each the way of its steps.
        head, shape = Head(1, 0, 0, 1, (2, 2, 0, 0, 0, 2, 0, 2)), Shape(1, 3, 0, 1)
        references = [((1, 1, 0),)]
        for plane in (((1, 0, 0),), ((1, 1, 0),)):
            told = {}
            for telling in all_tellings(head, shape, (-1, 0, 1)):
                if plain_play(head, shape, telling, references) != (plane, True):
                    continue
                node, cost, bare = START, 0, True
                for block, choice in telling:
                    steps = {(other, made_so): price for other, made_so, price in
                             steps_from(head, shape, plane, references, *node)}
                    bare = bare and (block, choice) in steps
                    cost += steps.get((block, choice), 0)
                    node = (place_of(shape, block)[1], vector_behind(choice, node[1]))
                if bare:
                    self.assertEqual(cost, len(plain_bits(head, shape, telling)))
                    told[telling] = cost
            least = min(told.values())
            self.assertEqual(many_fewest(head, shape, plane, references), list(told.values()).count(least))
            self.assertEqual(worth(head, shape, fewest(head, shape, plane, references)), least)


class Steps(unittest.TestCase):
    def test_by_hand(self):
        shape = Shape(1, 2, 0, 9)
        head = Head(1, 0, 0, 1, (2, 0, 0, 0, 0, 2, 0, 2))
        found = steps_from(head, shape, ((4, 4),), [((4, 4),)], 0, (0, 0))
        sides = [(y, x) for y in (-1, 0, 1) for x in (-1, 0, 1)]
        self.assertEqual(found[:5], [
            ((0, 0, 8), ("flat", "none", ()), 1 + 2 + 1), ((0, 0, 8), ("flat", "plain", (0, 0)), 1 + 2 + 2 + 2),
            ((0, 0, 8), ("flat", "lifted", (0, 0)), 1 + 2 + 2 + 2),
            ((0, 0, 8), ("copy", 0, (-1, -1), "none", ()), 1 + 2 + 6 + 1),
            ((0, 0, 8), ("copy", 0, (-1, -1), "plain", (0, 0)), 1 + 2 + 6 + 4)])
        self.assertEqual([choice[2] for block, choice, _ in found if choice[0] == "copy" and choice[3] == "plain"],
                         sides * 3)
        self.assertEqual([(block, cost) for block, choice, cost in found if choice == ("still",)],
                         [((0, 0, 8), 1 + 2), ((0, 0, 4), 2 + 2), ((0, 0, 2), 2 + 2)])
        self.assertEqual(len(found), 3 * (3 + 27 + 1))

    def test_levels_by_hand(self):
        shape = Shape(1, 3, 0, 9)
        head = Head(0, 0, 1, 0, (1, 0, 0, 0, 0, 0, 0, 0))
        self.assertEqual(steps_from(head, shape, ((7, 8, 5),), [], 0, (0, 0)), [
            ((0, 0, 8), ("flat", "plain", (3, 4, 1)), 1 + 1 + 2 + 4 + 5 + 2),
            ((0, 0, 8), ("flat", "lifted", (2, -2, 1)), 1 + 1 + 2 + 3 + 4 + 2),
            ((0, 0, 4), ("flat", "plain", (3, 4, 1)), 2 + 1 + 2 + 4 + 5 + 2),
            ((0, 0, 4), ("flat", "lifted", (2, -2, 1)), 2 + 1 + 2 + 3 + 4 + 2),
            ((0, 0, 2), ("flat", "plain", (3, 4)), 2 + 1 + 2 + 4 + 5),
            ((0, 0, 2), ("flat", "lifted", (3, 1)), 2 + 1 + 2 + 4 + 2)])
        self.assertEqual(steps_from(head, shape, ((7, 8, 5),), [], 1, (0, 0)), [
            ((0, 2, 2), ("flat", "plain", (1,)), 1 + 2 + 2), ((0, 2, 2), ("flat", "lifted", (1,)), 1 + 2 + 2)])

    def test_by_the_document(self):
        rng = random.Random(42)
        for _ in range(60):
            head, shape, plane, references = chance_case(rng)
            for place, vector in rng.sample(plain_nodes(head, shape), min(4, len(plain_nodes(head, shape)))):
                self.assertEqual(steps_from(head, shape, plane, references, place, vector),
                                 plain_steps(head, shape, plane, references, place, vector))

    def test_wrong_inputs(self):
        plane = plane_of(SMALL, random.Random(43))
        refuses(self, steps_from, [full_head(1, 0, 0, 2), SMALL, plane, [plane], 1, (0, -2)], [
            NO_HEAD, LOSSY, NO_SHAPE, (2, wrong_planes(SMALL), BadPlane),
            (3, [None, [], [plane, plane], plane, [None], {0: plane}], BadReferences),
            (4, wrong_numbers(0, 1), BadPlace),
            (5, NOTHINGS + [(3, 0), (0, -3), (0,), (0, 0, 0), [0, 0], (True, 0), (0, None), 0], BadVector)])
        refuses(self, steps_from, [full_head(0, 0, 0, 2), SMALL, plane, [], 0, (0, 0)], [
            NO_HEAD, LOSSY, NO_SHAPE, (2, [None], BadPlane), (3, [[plane], None], BadReferences),
            (4, [2, -1], BadPlace), (5, [(0, 1), (1, 0), (False, 0), [0, 0]], BadVector)])


class Prices(unittest.TestCase):
    def meets(self, head, shape, plane, references):
        expected, many = plain_prices(head, shape, plane, references)
        found = prices(head, shape, plane, references)
        self.assertEqual(found, expected)
        self.assertEqual(list(found), plain_nodes(head, shape))
        told = fewest(head, shape, plane, references)
        self.assertTrue(is_telling(head, shape, told))
        self.assertEqual(plain_play(head, shape, told, references), (plane, True))
        self.assertEqual(len(plain_bits(head, shape, told)), found[START])
        self.assertEqual(many_fewest(head, shape, plane, references), many)
        self.assertIs(is_prices(head, shape, plane, references, found), True)
        self.assertIs(is_fewest(head, shape, plane, references, told, found), True)
        grades = [(plain_prices(Head(head.kind, 0, grade, head.reach, head.book), shape, plane, references)[0][START],
                   grade) for grade in range(8)] if many_cells(shape) < 3 and head.reach < 2 else []
        if grades:
            self.assertEqual(best_grade(head, shape, plane, references), min(grades))

    def test_by_the_document(self):
        rng = random.Random(44)
        for at in range(50):
            head, shape, plane, references = chance_case(rng, 4, None, 2 if at < 3 else at % 2)
            self.meets(head, shape, plane, references)

    def test_larger_ones(self):
        rng = random.Random(45)
        for size in ((9, 3), (3, 9), (8, 8), (10, 2)):
            shape = Shape(*size, 0, 5)
            for kind in (0, 1, 2):
                plane = plane_of(shape, rng)
                head = full_head(kind, 0, rng.randrange(3), 1 if size != (8, 8) else 0)
                self.meets(head, shape, plane, [with_sample(plane, (0, 0), 3)] * kind)

    def test_pictures_that_moved(self):
        # All but some samples are those of the first reference, moved: the vectors that come ahead count.
        rng = random.Random(52)
        used = 0
        for size in ((2, 6), (6, 3), (4, 9), (9, 2), (1, 12), (8, 4)):
            shape = Shape(*size, 0, 60)
            for kind in (1, 2):
                references = [plane_of(shape, rng) for _ in range(kind)]
                vector = (rng.choice([-1, 1]), rng.choice([-1, 0, 1]))
                plane = plane_moved(shape, vector, references[0])
                for spot in rng.sample(all_spots(shape), 2):
                    plane = with_sample(plane, spot, rng.randint(0, 60))
                head = Head(kind, 0, 2, 1, (4, 4, 4, 4, 0, 2, 3 if kind == 2 else 0, 2))
                self.meets(head, shape, plane, references)
                told = fewest(head, shape, plane, references)
                used += len([1 for _, choice in told if choice == ("still",)])
        self.assertGreater(used, 5)

    def test_a_moved_picture_by_hand(self):
        shape = Shape(2, 12, 0, 9)
        reference = ((1, 5, 9, 2, 6, 0, 7, 3, 8, 2, 9, 0), (4, 0, 8, 3, 9, 1, 5, 0, 6, 4, 1, 7))
        plane = tuple(row[1:] + row[-1:] for row in reference)
        head = Head(1, 0, 0, 2, (3, 0, 0, 0, 0, 2, 0, 1))
        self.assertEqual(fewest(head, shape, plane, [reference]), (
            ((0, 0, 8), ("copy", 0, (0, 2), "none", ())), ((0, 8, 8), ("still",))))
        found = prices(head, shape, plane, [reference])
        self.assertEqual((found[START], found[(4, (0, 2))]), (1 + 2 + 1 + 5 + 1 + 1 + 1, 1 + 1))
        self.assertEqual((found[(4, (0, 0))], found[(4, (1, 1))]), (1 + 2 + 1 + 5 + 1, 1 + 2 + 3 + 3 + 1))

    def test_one_cell_in_three_ways(self):
        shape = Shape(2, 2, 0, 9)
        head = Head(0, 0, 0, 0, (1, 0, 0, 0, 0, 0, 0, 0))
        self.assertEqual(many_fewest(head, shape, flat_plane(shape, 4), []), 1)
        self.assertEqual(prices(head, shape, flat_plane(shape, 4), []), {START: 3})
        # All levels are 0, or all numbers are lifted to 0 but the first: by the way "plain" as many bits.
        alone = Shape(1, 1, 0, 9)
        self.assertEqual(many_fewest(head, alone, ((5,),), []), 2)
        self.assertEqual(prices(head, alone, ((5,),), []), {START: 1 + 1 + 2 + 2})
        self.assertEqual(many_fewest(Head(0, 0, 0, 0, (1, 0, 0, 0, 0, 0, 0, 0)), Shape(2, 4, 0, 9),
                                     ((4, 4, 4, 4),) * 2, []), 1)

    def test_sizes_that_count_alike(self):
        # With the quarters told by one bit more each, the sizes 4 and 2 of one cell have as many bits.
        shape = Shape(2, 2, 0, 9)
        head = full_head(0)
        steps = steps_from(head, shape, flat_plane(shape, 4), [], 0, (0, 0))
        self.assertEqual([cost for block, choice, cost in steps if choice == ("flat", "none", ())], [5, 6, 6])

    def test_numbers_that_are_prices(self):
        rng = random.Random(46)
        for at in range(24):
            head, shape, plane, references = chance_case(rng, 3, None, at % 2)
            best = prices(head, shape, plane, references)

            def judged(thing):
                return is_prices(head, shape, plane, references, thing)
            self.assertIs(judged({node: 0 for node in best}), True)
            self.assertIs(judged({node: number - 7 for node, number in best.items()}), True)
            self.assertIs(judged(dict(reversed(list(best.items())))), True)
            self.assertIs(judged({node: number // 2 for node, number in best.items()}),
                          self.plainly(head, shape, plane, references, {node: best[node] // 2 for node in best}))
            for _ in range(3):
                node = rng.choice(list(best))
                for change in (1, -1):
                    other = dict(best)
                    other[node] += change
                    self.assertIs(judged(other), self.plainly(head, shape, plane, references, other))
            self.assertIs(judged({**best, START: best[START] + 1}), False)

    def plainly(self, head, shape, plane, references, thing):
        for node in plain_nodes(head, shape):
            for block, choice, cost in plain_steps(head, shape, plane, references, *node):
                behind = (place_of(shape, block)[1], vector_behind(choice, node[1]))
                if cost < thing[node] - thing.get(behind, 0):
                    return False
        return True

    def test_values_that_are_no_prices(self):
        head, shape = full_head(1, 0, 0, 1), Shape(1, 3, 0, 9)
        plane = ((1, 4, 2),)
        best = prices(head, shape, plane, [plane])
        node = (1, (0, 1))
        less = {key: number for key, number in best.items() if key != node}
        wrongs = NOTHINGS + [SHAPE, list(best.items()), tuple(best), less, {**best, (2, (0, 0)): 0}, {**best, "x": 1},
                             {**less, (1, (0, True)): best[node]}, {**less, (True, (0, 1)): best[node]},
                             {**less, (1, (0, 2)): best[node]}, {**less, (1, 0, 1): best[node]}, {**less, None: 0},
                             {**best, (0, (False, 2)): 0}, {**less, (2, (0, 0)): 0}, {**less, ((1,), (0, 1)): 0}]
        wrongs += [{**best, node: number} for number in (None, True, False, "0", (0,), [0], SHAPE)]
        for thing in wrongs:
            self.assertIs(is_prices(head, shape, plane, [plane], thing), False, thing)
            telling = fewest(head, shape, plane, [plane])
            self.assertIs(is_fewest(head, shape, plane, [plane], telling, thing), False, thing)
        zero = {(place, (False, 0)): 0 for place in range(2)}
        self.assertIs(is_prices(full_head(0), shape, plane, [], zero), False)
        self.assertIs(is_prices(full_head(0), shape, plane, [], {(0, (0, 0)): 0, (1, (0, 0)): 0}), True)

    def test_what_is_fewest(self):
        head, shape = full_head(0), Shape(1, 2, 0, 9)
        plane = ((9, 4),)
        best = prices(head, shape, plane, [])
        good = fewest(head, shape, plane, [])
        self.assertIs(is_fewest(head, shape, plane, [], good, best), True)
        self.assertIs(is_fewest(head, shape, ((8, 4),), [], good, prices(head, shape, ((8, 4),), [])), False)
        self.assertIs(is_fewest(head, shape, plane, [], good, {START: best[START] - 1}), False)
        self.assertIs(is_fewest(head, shape, plane, [], good, {START: best[START] + 1}), False)
        self.assertIs(is_fewest(head, shape, plane, [], good, {START: True}), False)
        # Of other planes the fewest bits are as many: a telling has to show this one.
        for other in (((5, 4),), ((4, 5),)):
            found = prices(head, shape, other, [])
            for shown in (((5, 4),), ((4, 5),)):
                told = fewest(head, shape, shown, [])
                self.assertEqual(worth(head, shape, told), found[START])
                self.assertIs(is_fewest(head, shape, other, [], told, found), shown == other)
        longer = (((0, 0, 2), good[0][1]),)
        self.assertIs(is_fewest(head, shape, plane, [], longer, best), False)
        # A telling with a level that is clipped is one that shows the plane, plain or lifted, and may fit or not.
        plain = (((0, 0, 8), ("flat", "plain", (6, 0))),)
        self.assertTrue(does_fit(head, shape, plain, []))
        self.assertEqual(play(head, shape, plain, []), plane)
        unfit = (((0, 0, 8), ("flat", "lifted", (3, -6))),)
        self.assertEqual((play(head, shape, unfit, []), does_fit(head, shape, unfit, [])), (((9, 4),), False))
        for telling in (plain, unfit):
            number = {START: worth(head, shape, telling)}
            self.assertIs(is_fewest(head, shape, plane, [], telling, number), False)

    def test_a_telling_that_does_not_fit_is_none_of_the_fewest(self):
        head, shape, plane = Head(0, 0, 1, 0, (1, 0, 0, 0, 0, 0, 0, 0)), Shape(1, 2, 0, 1), ((1, 1),)
        best = prices(head, shape, plane, [])
        unfit = (((0, 0, 8), ("flat", "lifted", (1, 1))),)
        self.assertEqual((worth(head, shape, unfit), play(head, shape, unfit, [])), (best[START], plane))
        self.assertIs(does_fit(head, shape, unfit, []), False)
        self.assertIs(is_fewest(head, shape, plane, [], unfit, best), False)
        self.assertIs(is_fewest(head, shape, plane, [], (((0, 0, 8), ("flat", "plain", (1, 1))),), best), True)

    def test_the_best_grade_by_hand(self):
        # The rests 3, 64 and 512 are folded to 5, 127 and 1023.
        for shape, number, bits, grade in ((Shape(1, 1, 0, 9), 7, 1 + 1 + 2 + 4, 1), (Shape(1, 1, -512, 511), 63, 4 + 8, 6),
                                           (Shape(1, 1, -512, 511), 511, 4 + 15, 7)):
            head = Head(0, 0, 3, 0, (1, 0, 0, 0, 0, 0, 0, 0))
            self.assertEqual(best_grade(head, shape, ((number,),), []), (bits, grade))
        self.assertEqual(best_grade(Head(0, 0, 7, 0, (1, 0, 0, 0, 0, 0, 0, 0)), Shape(1, 1, 0, 9), ((4,),), []), (3, 0))

    def test_a_telling_that_is_clipped_may_be_fewest(self):
        # With low and high the same number each level shows it, and 0 costs no more than others.
        shape, head = Shape(1, 1, 5, 5), Head(0, 0, 1, 0, (1, 0, 0, 0, 0, 0, 0, 0))
        self.assertEqual(prices(head, shape, ((5,),), []), {START: 3})
        telling = (((0, 0, 8), ("flat", "none", ())),)
        self.assertIs(is_fewest(head, shape, ((5,),), [], telling, {START: 3}), True)
        # With the grade 1 the levels 0 and 1 have words of one length; clipped, and as good.
        shape = Shape(1, 1, 0, 2)
        best = prices(head, shape, ((2,),), [])
        self.assertEqual(best, {START: 1 + 1 + 2 + 2})
        for level, many in ((1, 6), (2, 7), (-1, None)):
            telling = (((0, 0, 8), ("flat", "plain", (level,))),)
            self.assertIs(is_fewest(head, shape, ((2,),), [], telling, best), many == 6)

    def test_unfit_ones_are_left_out(self):
        # Lifted numbers beyond what fits would be clipped to the plane, in fewer bits than any that fit.
        shape, head = Shape(1, 2, 0, 1), Head(0, 0, 0, 0, (1, 0, 0, 0, 0, 0, 0, 0))
        found = {}
        for levels in itertools.product(range(-3, 4), repeat=2):
            for way in ("plain", "lifted"):
                telling = (((0, 0, 8), ("flat", way, levels)),)
                plane, fits = plain_play(head, shape, telling, [])
                found.setdefault((plane, fits), []).append(worth(head, shape, telling))
        for plane in [((a, b),) for a in (0, 1) for b in (0, 1)]:
            flat = [4 - 1] if plane == ((0, 0),) else []
            self.assertEqual(prices(head, shape, plane, [])[START], min(found[(plane, True)] + flat))

    def test_more_reach_is_never_worse(self):
        rng = random.Random(47)
        for _ in range(12):
            kind = rng.choice([1, 2])
            book = rng.choice([book_for(kind), chance_book(rng, kind)])
            shape = Shape(rng.randint(1, 4), rng.randint(1, 5), 0, 6)
            plane, references = plane_of(shape, rng), [plane_of(shape, rng) for _ in range(kind)]
            found = [prices(Head(kind, 0, 0, reach, book), shape, plane, references)[START] for reach in (1, 2, 3, 4)]
            self.assertEqual(found, sorted(found, reverse=True))

    def test_the_middle_alone_is_cheapest(self):
        rng = random.Random(48)
        for _ in range(40):
            head, shape, plane, _ = chance_case(rng, 6, 0)
            middle = prices(head, shape, flat_plane(shape, shape.middle), [])[START]
            self.assertLessEqual(middle, prices(head, shape, plane, [])[START])

    def test_wrong_inputs(self):
        plane = plane_of(SMALL, random.Random(49))
        reference_errors = [None, [], [plane, plane], plane, [None], [[list(row) for row in plane]], {0: plane}]
        checks = [NO_HEAD, LOSSY, NO_SHAPE, (2, wrong_planes(SMALL), BadPlane), (3, reference_errors, BadReferences)]
        right = [full_head(1, 0, 0, 1), SMALL, plane, [plane]]
        for call in (fewest, prices, many_fewest, best_grade):
            refuses(self, call, right, checks)
        refuses(self, is_prices, right + [None], checks)
        telling = fewest(*right)
        wrong_tellings = NOTHINGS + [SHAPE, list(telling), telling[1:], telling + telling, telling[0]]
        refuses(self, is_fewest, right + [telling, prices(*right)], checks + [(4, wrong_tellings, BadTelling)])
        refuses(self, made, right, [NO_HEAD, NO_SHAPE, (2, wrong_planes(SMALL), BadPlane),
                                    (3, reference_errors, BadReferences)])

    def test_limits(self):
        inside = [(4, Shape(2, 12, 0, 1)), (4, Shape(5, 4, 0, 1)), (3, Shape(8, 8, 0, 1)), (2, Shape(16, 16, 0, 1))]
        beyond = [(4, Shape(2, 14, 0, 1)), (3, Shape(2, 16, 0, 1)), (3, Shape(9, 8, 0, 1)), (4, Shape(16, 16, 0, 1))]
        for kind in (1, 2):
            for reach, shape in inside:
                head = full_head(kind, 0, 0, reach)
                plane = flat_plane(shape, 0)
                if many_cells(shape) < 17:
                    self.assertEqual(steps_from(head, shape, plane, [plane] * kind, 0, (0, 0))[0][1],
                                     ("flat", "none", ()))
                    self.assertTrue(is_cover(shape, [block for block, _ in fewest(head, shape, plane, [plane] * kind)]))
            for reach, shape in beyond:
                if (2 * reach + 1) ** 4 * many_cells(shape) <= 40000:
                    continue
                head = full_head(kind, 0, 0, reach)
                plane = flat_plane(shape, 0)
                right = [head, shape, plane, [plane] * kind]
                telling = made(*right)
                self.assertEqual(play(head, shape, telling, right[3]), plane)
                for call, more in ((fewest, []), (prices, []), (many_fewest, []), (best_grade, []), (is_prices, [{}]),
                                   (is_fewest, [telling, {}]), (steps_from, [0, (0, 0)])):
                    raises(self, TooMany, call, right + more, most=40000)
                    raises(self, BadReferences, call, right[:3] + [[]] + more)
                    raises(self, BadPlane, call, right[:2] + [None, []] + more)
                raises(self, BadTelling, is_fewest, right + [(), {}])
                raises(self, BadPlace, steps_from, right + [many_cells(shape), (0, 0)])
                raises(self, BadVector, steps_from, right + [0, (0, 5)])
        for reach in range(5):
            shape = Shape(16, 16, 0, 1)
            head = full_head(0, 0, 0, reach)
            self.assertEqual(prices(head, shape, flat_plane(shape, 0), [])[START], 4 * 5)
            self.assertEqual(len(prices(head, shape, flat_plane(shape, 0), [])), 64)

    def test_just_at_the_limit(self):
        shape = Shape(16, 16, 0, 1)
        plane = flat_plane(shape, 1)
        head = Head(1, 0, 0, 2, (1, 0, 0, 0, 0, 0, 0, 2))
        self.assertEqual(prices(head, shape, plane, [plane])[START], 4 * 3)
        self.assertEqual(len(prices(head, shape, plane, [plane])), 64 * 25)


def plain_made(head, shape, plane, references):
    """What is made at once, plainly by the document."""
    rows = [[shape.low] * shape.width for _ in range(shape.height)]

    def best(block, last):
        samples = [plane[y][x] for y, x in spots(shape, block)]
        found = []
        for start in starts(head, shape, block):
            guesses = guesses_for(shape, block, start, last, tuple(map(tuple, rows)), references)
            rests = tuple(sample - guessed for sample, guessed in zip(samples, guesses))
            levels = tuple(level_of(rest, head.loss) for rest in rests)
            if not any(levels):
                found.append(start if start == ("still",) else start + ("none", ()))
            elif start != ("still",):
                found.append(start + ("plain", levels))
                if head.loss == 0:
                    found.append(start + ("lifted", lifted_levels(shape, block, rests)))
        costs = [len("".join(items_of_choice(head, choice, last))) for choice in found]
        return costs[costs.index(min(costs))], found[costs.index(min(costs))]

    def tell(block, last):
        cost, choice = best(block, last)
        if block[2] > 2:
            cost += 1
            before = [list(row) for row in rows]
            total, pairs, here = 1, [], last
            for quarter in quarters(shape, block):
                more, told, here = tell(quarter, here)
                total, pairs = total + more, pairs + told
            if total < cost:
                return total, pairs, here
            rows[:] = before
        guesses = guesses_for(shape, block, choice, last, tuple(map(tuple, rows)), references)
        levels = choice[-1] if choice != ("still",) and choice[-2] != "none" else [0] * len(guesses)
        for (y, x), guessed, level in zip(spots(shape, block), guesses, levels):
            rows[y][x] = min(shape.high, max(shape.low, guessed + level * (2 * head.loss + 1)))
            if choice[-2:-1] == ("lifted",):
                rows[y][x] = plane[y][x]
        return cost, [(block, choice)], vector_behind(choice, last)
    pairs, last = [], (0, 0)
    for root in roots(shape):
        _, told, last = tell(root, last)
        pairs += told
    return tuple(pairs)


class Made(unittest.TestCase):
    def test_by_the_document(self):
        rng = random.Random(50)
        for _ in range(220):
            head, shape, plane, references = chance_case(rng, rng.choice([3, 6, 10]))
            loss = rng.choice([0, 0, 1, 2, 7])
            head = Head(head.kind, loss, head.grade, head.reach, head.book)
            found = made(head, shape, plane, references)
            self.assertEqual(found, plain_made(head, shape, plane, references))
            shown, fits = plain_play(head, shape, found, references)
            for row, line in zip(shown, plane):
                self.assertLessEqual(max(abs(one - other) for one, other in zip(row, line)), loss)
            if loss == 0:
                self.assertEqual((shown, fits), (plane, True))
                self.assertGreaterEqual(worth(head, shape, found),
                                        prices(head, shape, plane, references)[START])

    def test_by_hand(self):
        shape = Shape(2, 4, 0, 9)
        head = Head(1, 1, 0, 1, (2, 2, 0, 0, 0, 2, 0, 2))
        plane = ((4, 5, 9, 9), (3, 4, 8, 9))
        # All that is near to the middle is told by "flat", the rest of it by levels: 9 is told as 7 and 3 more.
        self.assertEqual(made(head, shape, ((4, 5, 3, 4), (3, 4, 4, 4)), [plane]),
                         (((0, 0, 8), ("flat", "none", ())),))
        self.assertEqual(made(head, shape, plane, [plane]), (((0, 0, 8), ("still",)),))
        self.assertEqual(made(head, shape, plane, [((8, 9, 9, 9),) * 2]), (
            ((0, 0, 2), ("flat", "none", ())), ((0, 2, 2), ("still",))))

    def test_lifted_ones_are_without_loss(self):
        # The rests 2, 2, 2, 2 are the levels 1, 1, 1, 1 of the loss 1. Lifted they would be 2, 0, 0, 0, in fewer bits.
        shape, plane = Shape(2, 2, 0, 9), ((6, 6), (6, 6))
        for loss, told in ((0, ("flat", "lifted", (2, 0, 0, 0))), (1, ("flat", "plain", (1, 1, 1, 1))),
                           (2, ("flat", "none", ()))):
            head = Head(0, loss, 0, 0, (1, 0, 0, 0, 0, 0, 0, 0))
            self.assertEqual(made(head, shape, plane, []), (((0, 0, 8), told),))

    def test_ties(self):
        # Of choices with as many bits the first mode, reference, vector and way counts, and the larger block.
        head = full_head(2, 0, 0, 1)
        shape = Shape(1, 2, 0, 9)
        self.assertEqual(made(head, shape, ((7, 7),), [((7, 7),)] * 2), (((0, 0, 8), ("still",)),))
        self.assertEqual(made(Head(2, 0, 0, 0, (3,) * 8), shape, ((4, 4),), [((4, 4),)] * 2),
                         (((0, 0, 8), ("still",)),))
        self.assertEqual(made(Head(2, 0, 0, 0, (3, 3, 3, 3, 3, 3, 3, 4)), shape, ((4, 4),), [((4, 4),)] * 2),
                         (((0, 0, 8), ("flat", "none", ())),))
        self.assertEqual(made(Head(2, 0, 0, 0, (7, 0, 0, 0, 0, 3, 2, 0)), shape, ((7, 7),), [((7, 7),)] * 2),
                         (((0, 0, 8), ("both", (0, 0), "none", ())),))
        self.assertEqual(made(Head(2, 0, 0, 0, (7, 0, 0, 0, 0, 3, 4, 0)), shape, ((7, 7),), [((7, 7),)] * 2),
                         (((0, 0, 8), ("copy", 0, (0, 0), "none", ())),))
        near = ((7, 7, 7),)
        self.assertEqual(made(Head(1, 0, 0, 1, (7, 0, 0, 0, 0, 1, 0, 0)), Shape(1, 3, 0, 9), ((0, 1, 2),), [((1, 3, 3),)]),
                         plain_made(Head(1, 0, 0, 1, (7, 0, 0, 0, 0, 1, 0, 0)), Shape(1, 3, 0, 9), ((0, 1, 2),),
                                    [((1, 3, 3),)]))
        self.assertEqual(made(Head(0, 0, 0, 0, (1,) + (0,) * 7), Shape(1, 1, 0, 9), ((5,),), []),
                         (((0, 0, 8), ("flat", "plain", (1,))),))
        self.assertEqual(made(Head(0, 0, 0, 0, (1,) + (0,) * 7), Shape(1, 3, 0, 9), near, []),
                         plain_made(Head(0, 0, 0, 0, (1,) + (0,) * 7), Shape(1, 3, 0, 9), near, []))

    def test_it_may_have_more_bits_than_the_fewest(self):
        rng = random.Random(51)
        shape, head = Shape(4, 8, 0, 60), full_head(2, 0, 2, 2)
        more = 0
        for _ in range(8):
            plane, references = plane_of(shape, rng), chance_references(rng, head, shape)
            more += worth(head, shape, made(head, shape, plane, references)) > prices(
                head, shape, plane, references)[START]
        self.assertGreater(more, 0)


if __name__ == "__main__":
    unittest.main()
