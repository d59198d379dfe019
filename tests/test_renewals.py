import itertools
import random
import unittest

from helpers import (NOTHINGS, all_blocks, all_spots, flat, plane_of, raises, refuses, wrong_blocks, wrong_numbers,
                     wrong_planes, wrong_shapes)
from pricedreels.errors import (BadIndex, BadLosses, BadLots, BadMany, BadMemory, BadMost, BadOther, BadPlanes, BadReach,
                                BadRenewals, BadShape, BadSpot, BadStore, BadStretch, TooMany)
from pricedreels.grids import Shape, cells, quarters, roots, spots
from pricedreels.harm import is_stretch, right, shown
from pricedreels.heads import Head
from pricedreels.losses import level_of, rebuilt
from pricedreels.renewals import (barrier, drift, heights, is_barrier, is_kept, least_renewals, safe, spoiler, to_renew,
                                  with_loop, without_loop, worst_planes)
from told import (chance_level, chance_shape, chance_store, chance_stretch, guesses_for, looked_by_telling,
                  plain_led, rests_for, vector_behind)

SHAPE = Shape(2, 6, 0, 9)
EXAMPLE = [((0, 0, 2), (0, 2, 2)), ((0, 4, 2),)]
PAIR = Shape(1, 2, 0, 2)
COPY = Head(1, 0, 0, 4, (2, 2, 0, 0, 0, 2, 0, 2))
ALONE = Head(0, 0, 0, 0, (1, 0, 0, 0, 0, 0, 0, 0))
ROOT = (0, 0, 8)
STILL = ((ROOT, ("still",)),)
MIDDLE = ((ROOT, ("flat", "none", ())),)
STORE = [((1, 2),), ((0, 2),)]
STRETCH = [(COPY, ((ROOT, ("copy", 0, (0, 1), "none", ())),), (1,)), (ALONE, MIDDLE, ()), (COPY, STILL, (0,))]
WRONG_REACHES = wrong_numbers(0, 4) + [1, 3]
NO_SHAPE = (0, wrong_shapes(), BadShape, {"part": None})
NO_REACH = (1, WRONG_REACHES, BadReach)


def near(shape, reach, spot):
    return [other for other in all_spots(shape) if max(abs(a - b) for a, b in zip(spot, other)) <= reach // 2]


def plain_behind(shape, reach, renewal, ahead):
    """What is safe behind a renewal, by the fact of point 174."""
    renewed = {spot for block in renewal for spot in spots(shape, block)}
    return {spot for spot in all_spots(shape) if shape.low == shape.high or spot in renewed
            or all(other in ahead for other in near(shape, reach, spot))}


def plain_safe(shape, reach, renewals):
    found, ahead = [], set()
    for renewal in renewals:
        ahead = plain_behind(shape, reach, renewal, ahead)
        found.append(ahead)
    return found


def chance_renewal(rng, shape, sizes=(8, 4, 2), many=3):
    chosen = []
    for block in rng.sample(all_blocks(shape), min(many, len(all_blocks(shape)))):
        if block[2] in sizes and not any(set(spots(shape, block)) & set(spots(shape, other)) for other in chosen):
            chosen.append(block)
    return tuple(sorted(chosen[:rng.randint(0, many)]))


def chance_keeping(rng, shape, reach, renewals):
    """A stretch that keeps the renewals."""
    found = []
    for renewal in renewals:
        head = Head(1, rng.randrange(3), 0, reach, (2, 0, 0, 3, 0, 2, 0, 2))
        telling, waiting = [], roots(shape)
        while waiting:
            block = waiting.pop(0)
            within = set(spots(shape, block))
            if block in renewal:
                levels = tuple(rng.randint(-4, 4) for _ in within)
                telling.append((block, rng.choice([("flat", "none", ()), ("flat", "plain", levels), ("flat", "lifted", levels)])))
            elif any(set(spots(shape, other)) <= within for other in renewal) or (block[2] > 2 and rng.random() < 0.6):
                waiting = quarters(shape, block) + waiting
            else:
                vector = (rng.randint(-reach, reach), rng.randint(-reach, reach))
                telling.append((block, rng.choice([("still",), ("copy", 0, vector, "none", ()), ("copy", 0, vector, "plain", tuple(
                    rng.randint(-1, 1) for _ in within))])))
        found.append((head, tuple(telling), (0,)))
    return found


def wrong_renewals():
    """Values that are no renewals of the shape, with what BadRenewals tells."""
    found = [(thing, None) for thing in (None, True, 0, "x", {}, (), [], SHAPE, [()] * 13, {0: ()})]
    parts = [None, True, 0, "x", [], {}, [(0, 0, 2)], ((0, 2, 2), (0, 0, 2)), ((0, 0, 2), (0, 0, 2)), ((0, 0, 2), (0, 0, 4)),
             ((0, 0, 8), (0, 2, 2)), ((0, 0, 4), (0, 2, 2)), (0, 0, 2), ((0, 6, 2),), ((2, 0, 2),), ((0, 0, 2), None),
             ((0, 4, 4), (0, 4, 8)), ((0, 0, 8), (0, 0, 8))]
    parts += [(block,) for block in wrong_blocks(SHAPE)]
    return found + [([part, None], 0) for part in parts] + [([(), part], 1) for part in parts]


class Kept(unittest.TestCase):
    def test_chance_ones(self):
        rng = random.Random(301)
        for _ in range(80):
            shape, reach = chance_shape(rng, 6), rng.choice([0, 2, 4])
            renewals = [chance_renewal(rng, shape) for _ in range(rng.randint(1, 4))]
            stretch = chance_keeping(rng, shape, reach, renewals)
            self.assertIs(is_kept(shape, reach, renewals, stretch), True)
            self.assertIs(is_kept(shape, reach, tuple(renewals), tuple(stretch)), True)
            self.assertIs(is_kept(shape, reach, renewals + [()], stretch), False)
            self.assertIs(is_kept(shape, 2 if reach != 2 else 4, renewals, stretch), False)
            for at, renewal in enumerate(renewals):
                blocks = [block for block, _ in stretch[at][1]]
                for block in all_blocks(shape):
                    if block not in renewal and not any(set(spots(shape, block)) & set(spots(shape, other)) for other in renewal):
                        more = list(renewals)
                        more[at] = tuple(sorted(renewal + (block,)))
                        self.assertIs(is_kept(shape, reach, more, stretch), False)
                for block in renewal:
                    self.assertIn(block, blocks)
                    fewer = list(renewals)
                    fewer[at] = tuple(other for other in renewal if other != block)
                    self.assertIs(is_kept(shape, reach, fewer, stretch), False)

    def test_any_value(self):
        head = Head(1, 0, 0, 2, (2, 2, 0, 0, 0, 2, 0, 2))
        good = (head, (((0, 0, 4), ("flat", "none", ())), ((0, 4, 4), ("still",))), (0,))
        renewals = [((0, 0, 4),)]
        self.assertIs(is_kept(SHAPE, 2, renewals, [good]), True)
        others = [good[:2] + ((1,),), good[:2] + ((False,),), good[:2], (head, good[1], [0]), None,
                  (Head(1, 0, 0, 4, head.book), good[1], (0,)), (Head(1, 0, 0, 0, head.book), good[1], (0,)),
                  (head, (((0, 0, 4), ("still",)), ((0, 4, 4), ("still",))), (0,)),
                  (head, (((0, 0, 4), ("flat", "none", ())), ((0, 4, 4), ("flat", "none", ()))), (0,)),
                  (head, (((0, 0, 4), ("flat", "none", ())), ((0, 4, 4), ("left", "none", ()))), (0,)),
                  (head, (((0, 0, 8), ("flat", "none", ())),), (0,)),
                  (Head(2, 0, 0, 2, (2, 2, 0, 0, 0, 2, 0, 2)), good[1], (0, 0)), (ALONE, MIDDLE, ()),
                  (head, (((0, 0, 2), ("flat", "none", ())), ((0, 2, 2), ("flat", "none", ())), ((0, 4, 4), ("still",))), (0,))]
        for thing in NOTHINGS + [SHAPE, good, [good, good], [good] * 13, {0: good}] + [[other] for other in others]:
            self.assertIs(is_kept(SHAPE, 2, renewals, thing), False, thing)
        self.assertIs(is_kept(SHAPE, 2, [()], [(head, STILL, (0,))]), True)
        self.assertIs(is_kept(SHAPE, 2, [()], [(head, MIDDLE, (0,))]), False)
        # "both" stands in other kinds alone, and the reach is the same even if nothing is copied.
        self.assertIs(is_kept(SHAPE, 2, [(ROOT,)], [(head, MIDDLE, (0,))]), True)
        self.assertIs(is_kept(SHAPE, 0, [(ROOT,)], [(head, MIDDLE, (0,))]), False)

    def test_wrong_inputs(self):
        good = [SHAPE, 2, EXAMPLE]
        for call, more in ((is_kept, [None]), (safe, []), (spoiler, [1, (0, 3)])):
            refuses(self, call, good + more, [NO_SHAPE, NO_REACH])
            for renewals, at in wrong_renewals():
                raises(self, BadRenewals, call, [SHAPE, 2, renewals] + more, at=at)
            raises(self, BadReach, call, [SHAPE, 1, None] + more)
            for reach in (0, 2, 4):
                call(SHAPE, reach, [()] * 12, *more)
                call(SHAPE, reach, [((0, 0, 4), (0, 4, 2)), (ROOT,)], *more)
        refuses(self, spoiler, good + [0, (0, 0)], [
            (3, wrong_numbers(0, 1), BadIndex),
            (4, NOTHINGS + [SHAPE, (2, 0), (0, 6), (-1, 0), (0, -1), [0, 0], (0, 0, 0), (True, 0), (0, False)], BadSpot)])


class Safe(unittest.TestCase):
    def test_example(self):
        self.assertEqual(safe(SHAPE, 2, EXAMPLE), [
            [(y, x) for y in (0, 1) for x in range(4)], [(y, x) for y in (0, 1) for x in (0, 1, 2, 4, 5)]])
        self.assertEqual(safe(SHAPE, 4, [(ROOT,), (), ()]), [all_spots(SHAPE)] * 3)
        self.assertEqual(safe(SHAPE, 0, [(), ((0, 2, 2),), ()]), [[], [(0, 2), (0, 3), (1, 2), (1, 3)]] + [
            [(0, 2), (0, 3), (1, 2), (1, 3)]])
        self.assertEqual(safe(Shape(1, 2, 3, 3), 4, [()]), [[(0, 0), (0, 1)]])

    def test_by_stretches(self):
        rng = random.Random(302)
        for _ in range(60):
            shape, reach = chance_shape(rng, 6), rng.choice([0, 2, 4])
            renewals = [chance_renewal(rng, shape, many=rng.choice([1, 3, 9])) for _ in range(rng.randint(1, 4))]
            found = safe(shape, reach, renewals)
            self.assertEqual(found, [sorted(part) for part in plain_safe(shape, reach, renewals)])
            for _ in range(3):
                stretch = chance_keeping(rng, shape, reach, renewals)
                for one, other in zip(found, right(shape, 1, stretch)):
                    self.assertLessEqual(set(one), set(other))
            low, high = [[flat(shape, number)] for number in (shape.low, shape.high)]
            for index, told in enumerate(found):
                for y, x in rng.sample(all_spots(shape), min(5, shape.height * shape.width)):
                    stretch = spoiler(shape, reach, renewals, index, (y, x))
                    if (y, x) in told:
                        self.assertIsNone(stretch)
                    else:
                        self.assertIs(is_kept(shape, reach, renewals, stretch), True)
                        self.assertEqual(shown(shape, 1, stretch, low)[index][y][x], shape.low)
                        self.assertEqual(shown(shape, 1, stretch, high)[index][y][x], shape.high)

    def test_renewals_with_nothing_in_them(self):
        self.assertEqual(safe(SHAPE, 2, [()] * 12), [[]] * 12)
        stretch = spoiler(SHAPE, 2, [()] * 12, 11, (1, 5))
        self.assertIs(is_kept(SHAPE, 2, [()] * 12, stretch), True)


class Fewest(unittest.TestCase):
    def test_example(self):
        for pictures in range(1, 7):
            most, renewals = least_renewals(Shape(2, 4, 0, 9), 2, pictures)
            self.assertEqual((most, len(renewals)), (2, pictures))
        self.assertEqual(barrier(Shape(2, 4, 0, 9), 2, 1, 1), [[((0, 0), (0, 1), (1, 0), (1, 1)), ((0, 2), (0, 3), (1, 2), (1, 3))]])
        self.assertEqual(barrier(Shape(2, 4, 0, 9), 2, 2, 0), [[()], [()]])
        self.assertIsNone(barrier(Shape(2, 4, 0, 9), 2, 3, 2))

    def test_by_all_renewals(self):
        cases = [(Shape(2, 4, 0, 9), 2, 3), (Shape(2, 4, 0, 9), 0, 3), (Shape(2, 6, 0, 9), 2, 2), (Shape(3, 3, 0, 1), 4, 2),
                 (Shape(1, 1, 0, 1), 4, 3), (Shape(1, 6, -3, 1), 2, 3), (Shape(5, 1, 0, 9), 0, 3), (Shape(4, 4, 5, 5), 2, 2),
                 (Shape(4, 4, 0, 9), 2, 2), (Shape(2, 6, 0, 9), 0, 3), (Shape(6, 3, 0, 9), 2, 1), (Shape(5, 4, 0, 9), 0, 1)]
        for shape, reach, pictures in cases:
            chosen = cells(shape)
            subsets = [tuple(sorted(part)) for many in range(len(chosen) + 1) for part in itertools.combinations(chosen, many)]
            found, told = least_renewals(shape, reach, pictures)
            self.assertIsInstance(told, list)
            self.assertTrue(all(part in subsets and len(part) <= found for part in told))
            self.assertEqual(len(told), pictures)
            self.assertEqual(safe(shape, reach, told)[-1], all_spots(shape))
            for most in range(7):
                layers, ahead = [], {frozenset()}
                for _ in range(pictures):
                    ahead = {frozenset(plain_behind(shape, reach, part, lot)) for lot in ahead
                             for part in subsets if len(part) <= most}
                    layers.append(sorted(tuple(sorted(lot)) for lot in ahead if not any(lot < other for other in ahead)))
                if tuple(all_spots(shape)) in layers[-1]:
                    self.assertGreaterEqual(most, found)
                    self.assertIsNone(barrier(shape, reach, pictures, most))
                    self.assertIs(is_barrier(shape, reach, pictures, most, layers), False)
                else:
                    self.assertLess(most, found)
                    self.assertEqual(barrier(shape, reach, pictures, most), layers)
                    self.assertIs(is_barrier(shape, reach, pictures, most, layers), True)

    def test_six_cells(self):
        for shape in (Shape(2, 12, 0, 9), Shape(12, 1, 0, 9), Shape(4, 6, 0, 9), Shape(6, 4, 0, 9)):
            for reach in (0, 2, 4):
                most, told = least_renewals(shape, reach, 6)
                self.assertEqual(safe(shape, reach, told)[-1], all_spots(shape))
                self.assertIs(is_barrier(shape, reach, 6, most - 1, barrier(shape, reach, 6, most - 1)), True)
        self.assertEqual(least_renewals(Shape(2, 12, 0, 9), 0, 6)[0], 1)
        self.assertEqual(least_renewals(Shape(2, 12, 0, 9), 0, 5)[0], 2)
        self.assertEqual(least_renewals(Shape(2, 12, 4, 4), 0, 5), (0, [()] * 5))

    def test_barriers_that_are_none(self):
        rng = random.Random(303)
        shape, reach, pictures, most = Shape(2, 4, 0, 9), 2, 3, 1
        good = barrier(shape, reach, pictures, most)
        whole = tuple(all_spots(shape))
        self.assertEqual(len(good), 3)

        def judged(thing):
            return is_barrier(shape, reach, pictures, most, thing)
        self.assertIs(judged(tuple(tuple(part) for part in good)), True)
        self.assertIs(judged([[lot[::-1] for lot in part][::-1] for part in good]), True)
        self.assertIs(judged([part + [()] for part in good]), True)
        # Greater lots are as good, if none has all spots in the end.
        wide = [whole[:-1], whole[1:]]
        self.assertIs(is_barrier(shape, reach, 1, most, [wide]), True)
        self.assertIs(is_barrier(shape, reach, 2, most, [wide, wide]), False)
        self.assertIs(is_barrier(shape, reach, 2, most, [[whole], [whole]]), False)
        self.assertIs(judged([[whole]] + good[1:]), False)
        for at in range(3):
            for lot in range(len(good[at])):
                for change in ("leave out", "shrink", "whole"):
                    thing = [list(part) for part in good]
                    if change == "leave out":
                        del thing[at][lot]
                    elif change == "shrink":
                        thing[at][lot] = thing[at][lot][1:]
                    else:
                        thing[at][lot] = whole
                    self.assertIs(judged(thing), False, (at, lot, change))
        parts = [None, True, 0, "x", {}, (None,), ["x"], [[(0, 0)]], [((0, 0), (0, 0))], [((2, 0),)], [((0, 4),)], [((-1, 0),)],
                 [((0,),)], [((0, True),)], [([0, 0],)], [(0, 0)], [((0, 0, 0),)], [{(0, 0): 1}], [((0, 0), None)], SHAPE]
        for thing in NOTHINGS + [shape, good[:2], good + [good[2]], {0: good[0], 1: good[1], 2: good[2]}]:
            self.assertIs(judged(thing), False, thing)
        for at in range(3):
            for part in parts:
                thing = list(good)
                thing[at] = part
                self.assertIs(judged(thing), False, part)
                if isinstance(part, list):
                    thing[at] = good[at] + part
                    self.assertIs(judged(thing), False, part)
        for _ in range(60):
            # Whatever is judged to be a barrier, there are no such renewals; by the fact just one of both is.
            most = rng.randint(0, 3)
            found = [[tuple(rng.sample(whole, rng.randint(0, 8))) for _ in range(rng.randint(1, 3))] for _ in range(2)]
            if is_barrier(shape, reach, 2, most, found):
                self.assertIsNotNone(barrier(shape, reach, 2, most))

    def test_wrong_inputs(self):
        shape, large = Shape(2, 4, 0, 9), Shape(2, 13, 0, 9)
        for call, more in ((least_renewals, []), (barrier, [1]), (is_barrier, [1, None])):
            checks = [NO_SHAPE, NO_REACH, (2, wrong_numbers(1, 6), BadMany)]
            if more:
                checks.append((3, wrong_numbers(0, 6), BadMost))
            refuses(self, call, [shape, 2, 2] + more, checks)
            raises(self, TooMany, call, [large, 2, 2] + more, most=6)
            raises(self, TooMany, call, [Shape(5, 6, 3, 3), 0, 1] + more, most=6)
            raises(self, BadReach, call, [large, 1, 2] + more)
            raises(self, BadMany, call, [large, 2, 0] + more)
            if more:
                raises(self, BadMost, call, [large, 2, 2, 7] + more[1:])


class Renewing(unittest.TestCase):
    def test_by_all_planes(self):
        rng = random.Random(311)
        for trial in range(80):
            shape, memory = [(Shape(1, 3, 0, 2), 2), (Shape(3, 3, 0, 1), 1), (Shape(1, 1, 3, 8), 3), (Shape(2, 4, 0, 1), 2)][trial % 4]
            stretch = chance_stretch(rng, shape, memory, rng.randint(1, 4), kinds=(1, 1, 2), most=2)
            store = chance_store(rng, shape, memory)
            index = rng.randrange(len(stretch))
            others = [at for at in range(len(stretch)) if at != index]
            lost = tuple(sorted(rng.sample(others, rng.randint(0, min(1, len(others))))))
            head, telling, sources = stretch[index]
            rows = list(itertools.product(range(shape.low, shape.high + 1), repeat=shape.width))
            told = plain_led(shape, stretch, store)[0][index]
            expected, last = [], (0, 0)
            variants = []
            for planes in itertools.product(list(itertools.product(rows, repeat=shape.height)), repeat=len(lost)):
                before, led = [], list(store)
                for at, piece in enumerate(stretch[:index]):
                    plane = planes[lost.index(at)] if at in lost else plain_led(shape, [piece], led)[0][0]
                    led = [plane] + led[:-1]
                if [led[source] for source in sources] not in variants:
                    variants.append([led[source] for source in sources])
            for block, choice in telling:
                seen = set()
                for references in variants:
                    guesses = guesses_for(shape, block, choice, last, told, references)
                    rests = rests_for(shape, block, choice, 2 * head.loss + 1)
                    seen.add(tuple(min(max(one + two, shape.low), shape.high) for one, two in zip(guesses, rests)))
                if len(seen) > 1:
                    expected.append(block)
                last = vector_behind(choice, last)
            self.assertEqual(to_renew(shape, memory, stretch, store, lost, index), expected)

    def test_by_hand(self):
        shape = Shape(2, 4, 0, 9)
        head = Head(1, 0, 0, 0, (2, 2, 0, 0, 0, 2, 0, 2))
        telling = (((0, 0, 2), ("copy", 0, (0, 0), "none", ())), ((0, 2, 2), ("left", "none", ())))
        stretch = [(head, STILL, (0,)), (head, telling, (0,)), (head, ((ROOT, ("copy", 0, (0, 0), "plain", (9,) * 8)),), (0,))]
        store = [plane_of(shape, random.Random(312))]
        # What leans on a block told anew is right again, and what is lifted to the end shows the same anyway.
        self.assertEqual(to_renew(shape, 1, stretch, store, (0,), 1), [(0, 0, 2)])
        self.assertEqual(to_renew(shape, 1, stretch, store, (1,), 2), [])
        self.assertEqual(to_renew(shape, 1, stretch, store, (), 1), [])
        self.assertEqual(to_renew(shape, 1, stretch, store, (1, 2), 0), [])
        self.assertEqual(to_renew(shape, 1, stretch[:2], store, (1,), 0), [])

    def test_wrong_inputs(self):
        lots = [thing for thing in NOTHINGS if thing not in ((), (1,))] + [PAIR, [1], (1, 0), (0, 0), (3,), (-1,), (False,), (0, None)]
        good = [PAIR, 2, STRETCH, STORE, (0,), 2]
        refuses(self, to_renew, good, [
            NO_SHAPE, (1, wrong_numbers(1, 4), BadMemory), (2, [None, (), [None] * 13], BadStretch, {"at": None}),
            (3, [None, STORE[:1], STORE * 2], BadStore, {"at": None}), (4, lots, BadLots), (5, wrong_numbers(0, 2) + [0], BadIndex)])
        for index in range(3):
            raises(self, BadIndex, to_renew, [PAIR, 2, STRETCH, STORE, (0, 1, 2), index])
        raises(self, BadStretch, to_renew, [PAIR, 2, STRETCH[:2] + [None], STORE, (0,), 1], at=2)
        raises(self, BadStore, to_renew, [PAIR, 2, STRETCH, [STORE[0], None], (0,), 1], at=1)


class Drift(unittest.TestCase):
    def test_by_the_document(self):
        rng = random.Random(321)
        for _ in range(100):
            shape = chance_shape(rng, 3)
            losses = [rng.randrange(8) for _ in range(rng.randint(1, 11))]
            planes = [plane_of(shape, rng) for _ in range(len(losses) + 1)]
            looped, free = [planes[0]], [planes[0]]
            for loss, ahead, plane in zip(losses, planes, planes[1:]):
                looped.append(tuple(tuple(rebuilt(shape, old, level_of(new - old, loss), loss) for old, new in zip(*lines))
                                    for lines in zip(looped[-1], plane)))
                free.append(tuple(tuple(rebuilt(shape, old, level_of(new - was, loss), loss) for old, was, new in zip(*lines))
                                  for lines in zip(free[-1], ahead, plane)))
            self.assertEqual(with_loop(shape, losses, planes), looped)
            self.assertEqual(without_loop(shape, tuple(losses), tuple(planes)), free)
            for loss, plane, told in zip([0] + losses, planes, with_loop(shape, losses, planes)):
                self.assertLessEqual(max(abs(a - b) for lines in zip(plane, told) for a, b in zip(*lines)), loss)
            worst = worst_planes(shape, losses)
            self.assertEqual(len(worst), len(losses) + 1)
            for plane, told, far in zip(worst, without_loop(shape, losses, worst), drift(shape, losses)):
                self.assertEqual({abs(a - b) for lines in zip(plane, told) for a, b in zip(*lines)}, {far})

    def test_greatest_over_all_planes(self):
        for low, high, losses in ((0, 4, [1, 1]), (-2, 3, [1, 0, 2]), (0, 5, [2, 1]), (3, 3, [1]), (0, 8, [1, 2]), (0, 9, [7]),
                                  (0, 3, [0, 0]), (-1, 8, [3, 0])):
            shape = Shape(1, 1, low, high)
            greatest = [0] * (len(losses) + 1)
            for numbers in itertools.product(range(low, high + 1), repeat=len(losses) + 1):
                told = without_loop(shape, losses, [((number,),) for number in numbers])
                greatest = [max(far, abs(plane[0][0] - number)) for far, plane, number in zip(greatest, told, numbers)]
            self.assertEqual(drift(shape, losses), greatest)
            self.assertEqual(greatest, [min(high - low, sum(losses[:at])) for at in range(len(losses) + 1)])

    def test_wrong_inputs(self):
        wrongs = [thing for thing in NOTHINGS if thing not in ([1], (1,))]
        wrongs += [PAIR, [1] * 12, [8], [-1], [True], [None], [1, None], "11", {0: 1}, [1, 8], (1, False), [[1]]]
        losses = (1, wrongs, BadLosses)
        for call in (drift, worst_planes):
            refuses(self, call, [PAIR, [0, 7]], [NO_SHAPE, losses])
            call(PAIR, [7] * 11)
        plane = ((1, 2),)
        planes = [None, True, 0, "xyz", {}, [], (), PAIR, plane, [plane], [plane] * 2, [plane] * 4, {0: plane, 1: plane, 2: plane}]
        planes += [[plane, wrong, plane] for wrong in wrong_planes(PAIR)] + [[plane, plane, wrong] for wrong in wrong_planes(PAIR)]
        for call in (with_loop, without_loop):
            refuses(self, call, [PAIR, [0, 7], [plane] * 3], [NO_SHAPE, losses, (2, planes, BadPlanes)])
            self.assertEqual(call(PAIR, [7] * 11, [plane] * 12), [plane] * 12)


def with_other_levels(rng, shape, stretch, most):
    """A stretch that is alike but for levels."""
    found = []
    for head, telling, sources in stretch:
        told = tuple((block, choice if choice[0] == "still" or choice[-2] == "none" else choice[:-1] + (
            tuple(chance_level(rng, most) if rng.random() < 0.4 else level for level in choice[-1]),)) for block, choice in telling)
        found.append((head, told, sources))
    return found


class Heights(unittest.TestCase):
    def test_by_the_document(self):
        rng = random.Random(331)
        for _ in range(80):
            shape, memory = chance_shape(rng, 6), rng.randint(1, 3)
            stretch = chance_stretch(rng, shape, memory, rng.randint(1, 4), most=5)
            other = with_other_levels(rng, shape, stretch, 5)
            store = [{} for _ in range(memory)]
            expected = []
            for (head, telling, sources), (_, more, _) in zip(stretch, other):
                looked, reached, found = looked_by_telling(shape, telling), {}, []
                for (block, choice), (_, changed) in zip(telling, more):
                    one, two = [rests_for(shape, block, each, 2 * head.loss + 1) for each in (choice, changed)]
                    heights_seen = [0]
                    for spot in spots(shape, block):
                        heights_seen += [reached[seen] for seen in looked[spot][0]]
                        heights_seen += [store[sources[part[0]]].get(part[1:], 0) for part in looked[spot][1]]
                    found.append(max(abs(a - b) for a, b in zip(one, two)) + max(heights_seen))
                    reached.update({spot: found[-1] for spot in spots(shape, block)})
                expected.append(found)
                store = [reached] + store[:-1]
            self.assertEqual(heights(shape, memory, stretch, other), expected)
            self.assertEqual(heights(shape, memory, other, tuple(stretch)), expected)
            # What both show differs by at most the heights.
            planes = chance_store(rng, shape, memory)
            for (_, telling, _), one, two, told in zip(stretch, shown(shape, memory, stretch, planes),
                                                       shown(shape, memory, other, planes), expected):
                for (block, _), height in zip(telling, told):
                    for y, x in spots(shape, block):
                        self.assertLessEqual(abs(one[y][x] - two[y][x]), height)

    def test_by_hand(self):
        shape = Shape(2, 4, 0, 9)
        head = Head(1, 1, 0, 0, (2, 2, 0, 0, 0, 2, 0, 2))

        def piece(one, two):
            return (head, (((0, 0, 2), ("copy", 0, (0, 0), "plain", one)), ((0, 2, 2), ("left", "plain", two))), (0,))
        stretch = [piece((1, 1, 1, 1), (0, 0, 0, 0))] * 2
        other = [piece((1, 0, 1, 1), (2, 0, 0, 0)), piece((1, 1, 1, 3), (0, 0, 0, 0))]
        self.assertEqual(heights(shape, 1, stretch, other), [[3, 9], [9, 9]])
        self.assertEqual(heights(shape, 1, stretch, stretch), [[0, 0], [0, 0]])

    def test_wrong_inputs(self):
        good = [PAIR, 2, STRETCH, STRETCH]
        plain = ((ROOT, ("copy", 0, (0, 1), "plain", (1, 2))),)
        lifted = ((ROOT, ("copy", 0, (0, 1), "lifted", (1, 2))),)
        others = [STRETCH[:2], STRETCH + STRETCH[:1], STRETCH[::-1], [STRETCH[0], STRETCH[1], (COPY, STILL, (1,))]]
        for first in [(COPY, plain, (1,)), (COPY, lifted, (1,)), (COPY, ((ROOT, ("copy", 0, (0, 2), "none", ())),), (1,)),
                      (COPY, STILL, (1,)), (COPY, MIDDLE, (1,)), STRETCH[1],
                      (Head(1, 0, 0, 3, COPY.book), STRETCH[0][1], (1,)),
                      (COPY, (((0, 0, 4), ("copy", 0, (0, 1), "none", ())),), (1,)), (COPY, STRETCH[0][1], (0,))]:
            others.append([first] + STRETCH[1:])
        refuses(self, heights, good, [
            NO_SHAPE, (1, wrong_numbers(1, 4), BadMemory), (2, [None, (), [None] * 13], BadStretch, {"at": None}),
            (3, [None, (), {}, STRETCH * 5], BadStretch, {"at": None})])
        for other in others:
            self.assertIs(is_stretch(PAIR, 2, other), True)
            raises(self, BadOther, heights, [PAIR, 2, STRETCH, other])
        raises(self, BadOther, heights, [PAIR, 2, [(COPY, plain, (0,))], [(COPY, lifted, (0,))]])
        both = Head(2, 0, 0, 0, (2, 0, 0, 0, 0, 2, 0, 0))
        one, two = [[(both, ((ROOT, ("copy", number, (0, 0), "none", ())),), (0, 1))] for number in (0, 1)]
        raises(self, BadOther, heights, [PAIR, 2, one, two])
        for other, at in [([None] + STRETCH[1:], 0), (STRETCH[:2] + [None], 2)]:
            raises(self, BadStretch, heights, [PAIR, 2, STRETCH, other], at=at)
            raises(self, BadStretch, heights, [PAIR, 2, other, None], at=at)
        self.assertEqual(heights(PAIR, 2, [(COPY, plain, (0,))], [(COPY, ((ROOT, ("copy", 0, (0, 1), "plain", (4, 2))),), (0,))]), [[3]])


if __name__ == "__main__":
    unittest.main()
