import itertools
import random
import unittest

from helpers import (NOTHINGS, all_spots, flat, plane_of, raises, refuses, with_sample, wrong_numbers, wrong_planes,
                     wrong_shapes)
from pricedreels.errors import (BadError, BadHurt, BadIndex, BadLots, BadMemory, BadShape, BadSpot, BadStore,
                                BadStretch, TooMany)
from pricedreels.grids import Shape, cells
from pricedreels.harm import (after_losses, behind, between, dies_out, enough, harm, is_rests, is_stretch, looks, rests,
                              right, right_after, shown, spread, worst)
from pricedreels.heads import Head
from told import (chance_shape, chance_store, chance_stretch, full_head, looked_by_telling, plain_led)

POINT = Shape(1, 1, 0, 9)
PAIR = Shape(1, 2, 0, 2)
COPY = Head(1, 0, 0, 4, (2, 2, 0, 0, 0, 2, 0, 2))
ALONE = Head(0, 0, 0, 0, (1, 0, 0, 0, 0, 0, 0, 0))
BOTH = Head(2, 0, 0, 1, (2, 0, 0, 0, 0, 2, 2, 0))
ROOT = (0, 0, 8)
STILL = ((ROOT, ("still",)),)
MIDDLE = ((ROOT, ("flat", "none", ())),)
STORE = [((1, 2),), ((0, 2),)]
STRETCH = [(COPY, ((ROOT, ("copy", 0, (0, 1), "none", ())),), (1,)), (ALONE, MIDDLE, ()), (COPY, STILL, (0,))]

WRONG_SPOTS = NOTHINGS + [PAIR, (0, 2), (1, 0), (-1, 0), (0, -1), (0,), (0, 0, 0), [0, 0], (True, 0), (0, False), "00",
                          (0, None)]
WRONG_LOTS = [thing for thing in NOTHINGS if thing not in ((), (1,))] + [
    PAIR, [0], [0, 1], (1, 0), (0, 0), (3,), (-1,), (0, 3), (True,), (0, True), (None,), ("0",), "01", {0: 1}]


def planes(shape):
    """All planes."""
    rows = list(itertools.product(range(shape.low, shape.high + 1), repeat=shape.width))
    return list(itertools.product(rows, repeat=shape.height))


def stores(shape, memory):
    """All stores."""
    return [list(store) for store in itertools.product(planes(shape), repeat=memory)]


def spots_where(shape, holds):
    return [spot for spot in all_spots(shape) if holds(spot)]


def ends(rows):
    """The least and the greatest sample at each spot of several planes."""
    low = tuple(tuple(min(parts) for parts in zip(*lines)) for lines in zip(*rows))
    high = tuple(tuple(max(parts) for parts in zip(*lines)) for lines in zip(*rows))
    return low, high


def apart(one, other):
    return max(abs(a - b) for row, line in zip(one, other) for a, b in zip(row, line))


def wrong_stretches():
    """Values that are no stretches of the pair with the memory 2, with what BadStretch tells."""
    good = (COPY, STILL, (0,))
    found = [(thing, None) for thing in (None, True, 0, "x", {}, (), [], PAIR, [good] * 13, {0: good})]
    pieces = [None, True, 0, "x", (), [], {}, COPY, list(good), good[:2], good + (0,), (None, STILL, (0,)),
              (COPY, None, (0,)), (COPY, STILL, None), (COPY, STILL, ()), (COPY, STILL, (0, 0)), (COPY, STILL, (2,)),
              (COPY, STILL, (-1,)), (COPY, STILL, (True,)), (COPY, STILL, [0]), (COPY, STILL, 0), (COPY, list(STILL), (0,)),
              (ALONE, STILL, ()), (ALONE, MIDDLE, (0,)), (COPY, (), (0,)), (COPY, STILL, (None,)), (COPY, STILL, ("0",)),
              (STILL, COPY, (0,)), (BOTH, MIDDLE, (0,)), (BOTH, MIDDLE, (0, 1, 0)), (BOTH, MIDDLE, (0, 2)),
              (COPY, ((ROOT, ("copy", 1, (0, 0), "none", ())),), (0,)), (COPY, (((0, 0, 4), ("still",)),) * 2, (0,))]
    found += [([piece], 0) for piece in pieces] + [([good, piece, None], 1) for piece in pieces]
    return found + [([good] * 11 + [None], 11)]


def wrong_stores():
    """Values that are no stores of the pair with the memory 2, with what BadStore tells."""
    plane = ((0, 2),)
    found = [(thing, None) for thing in (None, True, 0, "xy", {}, (), [], PAIR, [plane], [plane] * 3, {0: plane, 1: plane})]
    return found + [([wrong, None], 0) for wrong in wrong_planes(PAIR)] + [([plane, wrong], 1) for wrong in wrong_planes(PAIR)]


class Stretches(unittest.TestCase):
    def test_what_is_a_stretch(self):
        for stretch in (STRETCH, tuple(STRETCH), STRETCH[:1], STRETCH * 4, [(BOTH, MIDDLE, (0, 0))], [(BOTH, MIDDLE, (1, 0))]):
            self.assertIs(is_stretch(PAIR, 2, stretch), True)
        self.assertIs(is_stretch(PAIR, 1, STRETCH), False)
        self.assertIs(is_stretch(PAIR, 1, STRETCH[1:]), True)
        self.assertIs(is_stretch(PAIR, 4, [(COPY, STILL, (3,))]), True)
        for thing, _ in wrong_stretches():
            self.assertIs(is_stretch(PAIR, 2, thing), False, thing)
        refuses(self, is_stretch, [PAIR, 1, STRETCH], [
            (0, wrong_shapes(), BadShape, {"part": None}), (1, wrong_numbers(1, 4), BadMemory)])

    def test_wrong_inputs_in_their_order(self):
        calls = [(shown, 4, []), (behind, 4, []), (between, 4, [STORE]), (right, 3, []), (looks, 3, [0, (0, 0)]),
                 (harm, 4, [((0, 0, 0),)]), (worst, 4, [((0, 0, 0),)]), (spread, 4, [1]), (after_losses, 4, [()]),
                 (right_after, 4, [()]), (enough, 4, [0]), (rests, 3, []), (is_rests, 3, [None]), (dies_out, 3, [])]
        for call, many, more in calls:
            args = [PAIR, 2, STRETCH, STORE][:many] + more
            call(*args)
            free = call is is_rests
            bad = [[None] * len(more)] if not free else [[None]]
            refuses(self, call, args, [(0, wrong_shapes(), BadShape, {"part": None}), (1, wrong_numbers(1, 4), BadMemory)])
            for stretch, at in wrong_stretches():
                raises(self, BadStretch, call, [PAIR, 2, stretch, None][:many] + bad[0], at=at)
            if many == 4:
                for store, at in wrong_stores():
                    raises(self, BadStore, call, [PAIR, 2, STRETCH, store] + bad[0], at=at)

    def test_shown_and_behind(self):
        self.assertEqual(shown(PAIR, 2, STRETCH, STORE), [((1, 2),), ((1, 1),), ((1, 1),)])
        self.assertEqual(behind(PAIR, 2, STRETCH, STORE), [((1, 1),), ((1, 1),)])
        rng = random.Random(201)
        for _ in range(150):
            shape, memory = chance_shape(rng, 5), rng.randint(1, 4)
            stretch = chance_stretch(rng, shape, memory, rng.randint(1, 5), most=40)
            store = chance_store(rng, shape, memory)
            told, left = plain_led(shape, stretch, store)
            self.assertEqual(shown(shape, memory, stretch, tuple(store)), told)
            self.assertEqual(behind(shape, memory, tuple(stretch), store), left)

    def test_twelve_pieces_and_large_shapes(self):
        rng = random.Random(202)
        shape = Shape(16, 16, -512, 511)
        stretch = chance_stretch(rng, shape, 4, 12, most=600)
        store = chance_store(rng, shape, 4)
        told, left = plain_led(shape, stretch, store)
        self.assertEqual((shown(shape, 4, stretch, store), behind(shape, 4, stretch, store)), (told, left))
        self.assertEqual(len(enough(shape, 4, stretch[:8], store, 0)), 1)

    def test_between(self):
        rng = random.Random(203)
        for _ in range(60):
            shape, memory = chance_shape(rng, 4), rng.randint(1, 3)
            stretch = chance_stretch(rng, shape, memory, rng.randint(1, 4), most=30)
            low, high = zip(*[ends([plane_of(shape, rng), plane_of(shape, rng)]) for _ in range(memory)])
            least, most = between(shape, memory, stretch, low, high)
            self.assertEqual((least, most), (plain_led(shape, stretch, low)[0], plain_led(shape, stretch, high)[0]))
            for _ in range(3):
                middle = [tuple(tuple(rng.randint(a, b) for a, b in zip(*lines)) for lines in zip(*pair))
                          for pair in zip(low, high)]
                for plane, one, other in zip(plain_led(shape, stretch, middle)[0], least, most):
                    self.assertEqual(ends([plane, one, other]), (one, other))
        self.assertEqual(between(PAIR, 2, STRETCH, STORE, STORE), (shown(PAIR, 2, STRETCH, STORE),) * 2)

    def test_between_of_wrong_stores(self):
        for store, at in wrong_stores():
            raises(self, BadStore, between, [PAIR, 2, STRETCH, [((2, 2),), ((2, 2),)], store], at=at)
        for at in range(2):
            for spot in ((0, 0), (0, 1)):
                low = list(STORE)
                low[at] = with_sample(STORE[at], spot, STORE[at][0][spot[1]] + 1) if STORE[at][0][spot[1]] < 2 else None
                if low[at] is not None:
                    raises(self, BadStore, between, [PAIR, 2, STRETCH, low, STORE], at=at)
        raises(self, BadStore, between, [PAIR, 2, STRETCH, [((2, 2),), ((2, 2),)], STORE], at=0)


class Right(unittest.TestCase):
    def test_by_all_stores(self):
        rng = random.Random(211)
        for trial in range(60):
            shape, memory = [(Shape(1, 2, 0, 2), 2), (Shape(2, 2, -1, 1), 1), (Shape(1, 1, 3, 6), 3), (Shape(1, 3, 5, 5), 2),
                             (Shape(1, 4, 0, 2), 1)][trial % 5]
            stretch = chance_stretch(rng, shape, memory, rng.randint(1, 3), most=2)
            all_shown = [plain_led(shape, stretch, store)[0] for store in stores(shape, memory)]
            expected = [spots_where(shape, lambda spot: len({told[at][spot[0]][spot[1]] for told in all_shown}) == 1)
                        for at in range(len(stretch))]
            self.assertEqual(right(shape, memory, stretch), expected)

    def test_nothing_is_right_and_all_is(self):
        self.assertEqual(right(PAIR, 1, [(COPY, STILL, (0,))] * 3), [[]] * 3)
        self.assertEqual(right(PAIR, 1, [(ALONE, MIDDLE, ()), (COPY, STILL, (0,))]), [[(0, 0), (0, 1)]] * 2)


class Looks(unittest.TestCase):
    def test_by_the_document(self):
        rng = random.Random(221)
        for _ in range(50):
            shape, memory = chance_shape(rng, 5), rng.randint(1, 3)
            stretch = chance_stretch(rng, shape, memory, rng.randint(1, 4))
            store = [{spot: {(slot,) + spot} for spot in all_spots(shape)} for slot in range(memory)]
            for index, (_, telling, sources) in enumerate(stretch):
                told, found = looked_by_telling(shape, telling), {}

                def seen(spot):
                    if spot not in found:
                        inside, outside = told[spot]
                        found[spot] = set().union(*[seen(other) for other in inside],
                                                  *[store[sources[part[0]]][part[1:]] for part in outside])
                    return found[spot]
                for spot in all_spots(shape):
                    self.assertEqual(looks(shape, memory, stretch, index, spot), sorted(seen(spot)))
                store = [found] + store[:-1]

    def test_others_never_change_it(self):
        rng = random.Random(222)
        for _ in range(60):
            shape, memory = chance_shape(rng, 4), rng.randint(1, 2)
            stretch = chance_stretch(rng, shape, memory, rng.randint(1, 3))
            index, spot = rng.randrange(len(stretch)), rng.choice(all_spots(shape))
            seen = looks(shape, memory, stretch, index, spot)
            store, other = chance_store(rng, shape, memory), chance_store(rng, shape, memory)
            for slot, y, x in seen:
                other[slot] = with_sample(other[slot], (y, x), store[slot][y][x])
            one, two = [shown(shape, memory, stretch, each)[index][spot[0]][spot[1]] for each in (store, other)]
            self.assertEqual(one, two)

    def test_by_hand(self):
        shape = Shape(2, 4, 0, 9)
        head = full_head(1, reach=4)
        cells = [((0, 0, 2), ("copy", 0, (0, 0), "none", ()))]
        for mode, seen in (("flat", []), ("left", [(0, 1, 1)]), ("mean", [(0, 0, 1), (0, 1, 1)])):
            stretch = [(head, tuple(cells + [((0, 2, 2), (mode, "plain", (1, 2, 3, 4)))]), (0,))]
            self.assertEqual(looks(shape, 1, stretch, 0, (1, 3)), seen)
        # A block that is told by levels so great that its samples are all the same looks at others all the same.
        stretch = [(head, ((ROOT, ("copy", 0, (1, 1), "plain", (999,) * 8)),), (0,))]
        self.assertEqual(right(shape, 1, stretch), [all_spots(shape)])
        self.assertEqual(looks(shape, 1, stretch, 0, (0, 0)), [(0, 0, 0), (0, 0, 1), (0, 1, 0), (0, 1, 1)])
        self.assertEqual(looks(shape, 1, stretch, 0, (1, 3)), [(0, 1, 3)])
        # "still" looks where the last vector leads.
        stretch = [(head, (((0, 0, 2), ("copy", 0, (0, 4), "none", ())), ((0, 2, 2), ("still",))), (0,))]
        self.assertEqual(looks(shape, 1, stretch, 0, (0, 2)), [(0, 0, 3)])
        self.assertEqual(looks(shape, 1, stretch * 2, 1, (0, 0)), [(0, 0, 3)])

    def test_wrong_inputs(self):
        refuses(self, looks, [PAIR, 2, STRETCH, 2, (0, 1)], [(3, wrong_numbers(0, 2), BadIndex), (4, WRONG_SPOTS, BadSpot)])


class Harm(unittest.TestCase):
    def test_by_all_numbers(self):
        rng = random.Random(231)
        for trial in range(80):
            shape, memory = [(Shape(1, 2, 0, 3), 2), (Shape(2, 3, -1, 2), 1), (Shape(1, 1, 3, 6), 3), (Shape(2, 2, 4, 4), 2)][trial % 4]
            stretch = chance_stretch(rng, shape, memory, rng.randint(1, 3), most=3)
            store = chance_store(rng, shape, memory)
            samples = [(slot,) + spot for slot in range(memory) for spot in all_spots(shape)]
            hurt = tuple(sorted(rng.sample(samples, rng.randint(1, min(3, len(samples))))))
            told = plain_led(shape, stretch, store)[0]
            all_shown = []
            for numbers in itertools.product(range(shape.low, shape.high + 1), repeat=len(hurt)):
                other = list(store)
                for (slot, y, x), number in zip(hurt, numbers):
                    other[slot] = with_sample(other[slot], (y, x), number)
                all_shown.append(plain_led(shape, stretch, other)[0])
            expected = []
            for at in range(len(stretch)):
                low, high = ends([each[at] for each in all_shown])
                expected.append({(y, x): (low[y][x], high[y][x]) for y, x in all_spots(shape) if low[y][x] != high[y][x]})
            found = harm(shape, memory, stretch, store, hurt)
            self.assertEqual(found, expected)
            self.assertEqual([list(part) for part in found], [sorted(part) for part in expected])
            self.assertEqual(worst(shape, memory, stretch, store, hurt),
                             max(apart(one, other) for each in all_shown for one, other in zip(told, each)))

    def test_nothing_hurt_and_samples_that_nothing_looks_at(self):
        stretch = [(COPY, ((ROOT, ("copy", 0, (0, 2), "none", ())),), (0,))]
        store = [((0, 2),), ((0, 2),)]
        self.assertEqual(harm(PAIR, 2, stretch, store, ((0, 0, 0),)), [{}])
        self.assertEqual(harm(PAIR, 2, stretch, store, ((1, 0, 0), (1, 0, 1))), [{}])
        self.assertEqual(worst(PAIR, 2, stretch, store, ((0, 0, 0), (1, 0, 1))), 0)
        self.assertEqual(harm(PAIR, 2, stretch, store, ((0, 0, 1),)), [{(0, 0): (0, 2), (0, 1): (0, 2)}])
        self.assertEqual(worst(PAIR, 2, stretch, store, ((0, 0, 1),)), 2)
        self.assertEqual(worst(PAIR, 2, stretch, [((0, 1),)] * 2, ((0, 0, 1),)), 1)
        self.assertEqual(worst(PAIR, 2, stretch, [((0, 0),)] * 2, ((0, 0, 1),)), 2)

    def test_wrong_inputs(self):
        wrongs = NOTHINGS + [PAIR, [(0, 0, 0)], ((0, 0, 1), (0, 0, 0)), ((0, 0, 0), (0, 0, 0)), ((2, 0, 0),), ((-1, 0, 0),),
                             ((0, 1, 0),), ((0, 0, 2),), ((0, 0),), ((0, 0, 0, 0),), ([0, 0, 0],), ((True, 0, 0),),
                             ((0, False, 0),), ((0, 0, True),), ((1, 0, 0), (0, 0, 0)), ((0, 0, 0), None), ((0, 0, 0), 5),
                             ((0, None, 0),), ("000",), ((0, 0, -1),), ((0, -1, 0),)]
        for call in (harm, worst):
            refuses(self, call, [PAIR, 2, STRETCH, STORE, ((0, 0, 1), (1, 0, 0))], [(4, wrongs, BadHurt)])

    def test_spread(self):
        rng = random.Random(232)
        for trial in range(60):
            shape, memory = [(Shape(1, 2, 0, 4), 1), (Shape(2, 1, -3, 2), 1), (Shape(1, 1, 0, 4), 2), (Shape(1, 2, 2, 2), 1)][trial % 4]
            stretch = chance_stretch(rng, shape, memory, rng.randint(1, 3), most=3)
            store = chance_store(rng, shape, memory)
            told = plain_led(shape, stretch, store)[0]
            for error in (0, 1, 2, 3, 9, 1023):
                near = [other for other in stores(shape, memory) if all(apart(one, two) <= error for one, two in zip(store, other))]
                all_shown = [plain_led(shape, stretch, other)[0] for other in near]
                expected = [max(apart(each[at], told[at]) for each in all_shown) for at in range(len(stretch))]
                found = spread(shape, memory, stretch, store, error)
                self.assertEqual(found, expected)
                self.assertLessEqual(max(found), error)
        refuses(self, spread, [PAIR, 2, STRETCH, STORE, 1023], [(4, wrong_numbers(0, 1023), BadError)])


class Losses(unittest.TestCase):
    def test_by_all_planes(self):
        rng = random.Random(241)
        for trial in range(60):
            shape, memory = [(Shape(1, 2, 0, 2), 2), (Shape(2, 2, 0, 1), 1), (Shape(1, 1, 3, 8), 3), (Shape(1, 2, 3, 3), 1)][trial % 4]
            stretch = chance_stretch(rng, shape, memory, rng.randint(1, 4), most=2)
            store = chance_store(rng, shape, memory)
            lost = tuple(sorted(rng.sample(range(len(stretch)), rng.randint(0, min(2, len(stretch))))))
            all_shown = [plain_led(shape, stretch, store, dict(zip(lost, other)))[0]
                         for other in itertools.product(planes(shape), repeat=len(lost))]
            expected = [ends([each[at] for each in all_shown]) for at in range(len(stretch))]
            self.assertEqual(after_losses(shape, memory, stretch, store, lost), expected)
            self.assertEqual(right_after(shape, memory, stretch, store, lost), [
                [] if at in lost else spots_where(shape, lambda spot: low[spot[0]][spot[1]] == high[spot[0]][spot[1]])
                for at, (low, high) in enumerate(expected)])

    def test_nothing_lost_and_all_lost(self):
        told = shown(PAIR, 2, STRETCH, STORE)
        self.assertEqual(after_losses(PAIR, 2, STRETCH, STORE, ()), [(plane, plane) for plane in told])
        self.assertEqual(right_after(PAIR, 2, STRETCH, STORE, ()), [all_spots(PAIR)] * 3)
        self.assertEqual(after_losses(PAIR, 2, STRETCH, STORE, (0, 1, 2)), [(((0, 0),), ((2, 2),))] * 3)
        self.assertEqual(right_after(PAIR, 2, STRETCH, STORE, (0, 1, 2)), [[]] * 3)
        self.assertEqual(right_after(PAIR, 2, STRETCH, STORE, (1,)), [all_spots(PAIR), [], []])
        flat_shape = Shape(1, 2, 4, 4)
        self.assertEqual(right_after(flat_shape, 1, STRETCH[1:], [((4, 4),)], (0,)), [[], all_spots(flat_shape)])
        for call in (after_losses, right_after):
            refuses(self, call, [PAIR, 2, STRETCH, STORE, (0, 2)], [(4, WRONG_LOTS, BadLots)])

    def test_enough(self):
        rng = random.Random(242)
        for _ in range(60):
            shape, memory, many = chance_shape(rng, 4), rng.randint(1, 4), rng.randint(1, 6)
            stretch = chance_stretch(rng, shape, memory, many, kinds=(0, 1, 2, 2), most=rng.choice([0, 3, 60]))
            store = chance_store(rng, shape, memory)
            for index in range(many):
                does = [lot for size in range(1, many + 1) for lot in itertools.combinations(range(many), size) if index in lot
                        and right_after(shape, memory, stretch, store, tuple(sorted(set(range(many)) - set(lot))))[index]
                        == all_spots(shape)]
                least = [lot for lot in does if not any(set(other) < set(lot) for other in does)]
                self.assertEqual(enough(shape, memory, stretch, store, index), least)

    def test_enough_by_hand(self):
        plane = ((2, 0),)
        # The last piece leans on two others, of which either one alone is enough where the store is the same.
        stretch = [(COPY, STILL, (0,)), (COPY, STILL, (0,)), (COPY, STILL, (0,))]
        self.assertEqual(enough(PAIR, 1, stretch, [plane], 2), [(0, 1, 2)])
        self.assertEqual(enough(PAIR, 1, stretch, [plane], 0), [(0,)])
        self.assertEqual(enough(PAIR, 1, [(ALONE, MIDDLE, ())] * 8, [plane], 7), [(7,)])
        # The sample between is the middle one of three: two of them that agree are enough.
        shape = Shape(4, 4, 0, 9)
        head = Head(2, 0, 0, 0, (2, 0, 0, 2, 0, 2, 0, 0))
        telling = (((0, 0, 2), ("copy", 0, (0, 0), "none", ())), ((0, 2, 2), ("copy", 1, (0, 0), "none", ())),
                   ((2, 0, 2), ("flat", "none", ())), ((2, 2, 2), ("middle", "none", ())))
        low = (ALONE, ((ROOT, ("flat", "none", ())),), ())
        found = enough(shape, 4, [low, low, (head, telling, (0, 1))], [flat(shape, 4)] * 4, 2)
        self.assertEqual(found, [(0, 1, 2)])
        self.assertEqual(enough(Shape(4, 4, 4, 4), 4, [low, low, (head, telling, (0, 1))], [flat(shape, 4)] * 4, 2), [(2,)])
        raises(self, TooMany, enough, [PAIR, 2, STRETCH * 3, STORE, 0], most=8)
        refuses(self, enough, [PAIR, 2, STRETCH, STORE, 2], [(4, wrong_numbers(0, 2), BadIndex)])
        raises(self, BadIndex, enough, [PAIR, 2, STRETCH * 3, STORE, 9])

    def test_several_least_lots(self):
        # Levels so great that what is lost does not matter; or one of two lots.
        shape = Shape(1, 1, 0, 4)
        up = (COPY, ((ROOT, ("copy", 0, (0, 0), "plain", (2,))),), (0,))
        down = (COPY, ((ROOT, ("copy", 0, (0, 0), "plain", (4,))),), (0,))
        self.assertEqual(enough(shape, 1, [up, up], [((0,),)], 1), [(0, 1)])
        self.assertEqual(enough(shape, 1, [up, up, up], [((0,),)], 2), [(1, 2)])
        self.assertEqual(enough(shape, 1, [up, up, down], [((0,),)], 2), [(2,)])
        # The middle one of 4 and of two samples of which one is known to be 4.
        shape = Shape(4, 4, 0, 9)
        head = Head(2, 0, 0, 0, (2, 0, 0, 2, 0, 2, 0, 0))
        telling = (((0, 0, 2), ("flat", "none", ())), ((0, 2, 2), ("copy", 0, (0, 0), "none", ())),
                   ((2, 0, 2), ("copy", 1, (0, 0), "none", ())), ((2, 2, 2), ("middle", "none", ())))
        stretch = [(ALONE, MIDDLE, ()), (ALONE, MIDDLE, ()), (head, telling, (0, 1)),
                   (COPY, ((ROOT, ("copy", 0, (4, 4), "none", ())),), (0,))]
        self.assertEqual(enough(shape, 2, stretch, [flat(shape, 0)] * 2, 3), [(0, 2, 3), (1, 2, 3)])
        self.assertEqual(enough(shape, 2, stretch, [flat(shape, 0)] * 2, 2), [(0, 1, 2)])
        stretch.insert(1, (COPY, STILL, (0,)))
        self.assertEqual(enough(shape, 2, stretch, [flat(shape, 0)] * 2, 4), [(2, 3, 4), (0, 1, 3, 4)])


RING = Shape(4, 14, -512, 511)


def ring(behind, others=("flat", "none", ())):
    """A telling of four cells that change places, one of them risen by one, and of others that follow one another."""
    told = {(0, 0, 2): ("copy", 0, (4, 0), "plain", (1,) * 4), (0, 2, 2): ("copy", 0, (0, -4), "none", ()),
            (2, 2, 2): ("copy", 0, (-4, 0), "none", ()), (2, 0, 2): ("copy", 0, (0, 4), "none", ())}
    for top, left in [(2, 4), (2, 6), (2, 8), (2, 10), (2, 12), (0, 12)][:behind]:
        told[(top, left, 2)] = ("copy", 0, (0, -4) if top else (4, 0), "none", ())
    return tuple((cell, told.get(cell, others)) for cell in cells(RING))


class Rests(unittest.TestCase):
    def test_examples(self):
        still, middle = [(COPY, STILL, (0,))], [(ALONE, MIDDLE, ())]
        self.assertEqual(rests(POINT, 1, still), ("apart", [((0,),)], [((9,),)]))
        self.assertEqual(rests(POINT, 1, middle), ("healed", 1, [((4,),)]))
        self.assertEqual((dies_out(POINT, 1, still), dies_out(POINT, 1, middle)), (False, True))
        self.assertEqual(rests(POINT, 3, middle), ("healed", 3, [((4,),)] * 3))
        self.assertEqual(rests(Shape(1, 1, 7, 7), 2, still), ("healed", 0, [((7,),)] * 2))

    def test_by_the_document(self):
        rng = random.Random(251)
        words = set()
        for trial in range(150):
            shape, memory = [(Shape(1, 2, 0, 3), 2), (Shape(2, 3, -1, 6), 1), (Shape(1, 1, 3, 9), 3), (Shape(2, 2, 4, 4), 2),
                             (Shape(3, 4, 0, 30), 1)][trial % 5]
            stretch = chance_stretch(rng, shape, memory, rng.randint(1, 3), kinds=(0, 1, 1, 1, 2), most=2)
            low, high = [[flat(shape, number)] * memory for number in (shape.low, shape.high)]
            rounds = 0
            while low != high and (plain_led(shape, stretch, low)[1], plain_led(shape, stretch, high)[1]) != (low, high):
                low, high = plain_led(shape, stretch, low)[1], plain_led(shape, stretch, high)[1]
                rounds += 1
            expected = ("healed", rounds, low) if low == high else ("apart", low, high)
            words.add(expected[0])
            found = rests(shape, memory, stretch)
            self.assertEqual(found, expected)
            self.assertLessEqual(rounds, memory * shape.height * shape.width * (shape.high - shape.low))
            self.assertIs(dies_out(shape, memory, stretch), expected[0] == "healed")
            self.assertIs(is_rests(shape, memory, stretch, found), True)
            self.assertIs(is_rests(shape, memory, stretch, (found[0],) + tuple(
                tuple(part) if isinstance(part, list) else part for part in found[1:])), True)
            if expected[0] == "healed":
                for many in (-1, 0, rounds - 1, rounds, rounds + 1, 4096, 4097):
                    self.assertIs(is_rests(shape, memory, stretch, ("healed", many, low)), rounds <= many <= 4096)
                for other in chance_store(rng, shape, 4):
                    self.assertIs(is_rests(shape, memory, stretch, ("healed", rounds, [other] * memory)), [other] * memory == low)
                self.assertIs(is_rests(shape, memory, stretch, ("apart", low, low)), False)
            else:
                self.assertIs(is_rests(shape, memory, stretch, ("apart", high, low)), True)
                self.assertIs(is_rests(shape, memory, stretch, ("apart", low, low)), False)
                for many in (0, 1, rounds, 4096):
                    self.assertIs(is_rests(shape, memory, stretch, ("healed", many, low)), False)
                    self.assertIs(is_rests(shape, memory, stretch, ("healed", many, high)), False)
        self.assertEqual(words, {"healed", "apart"})

    def test_apart_between_other_stores(self):
        still = [(COPY, STILL, (0,))]
        for one, other in itertools.product(range(10), repeat=2):
            self.assertIs(is_rests(POINT, 1, still, ("apart", [((one,),)], (((other,),),))), one != other)
        up = [(COPY, ((ROOT, ("copy", 0, (0, 0), "plain", (1,))),), (0,))]
        self.assertEqual(rests(POINT, 1, up), ("healed", 9, [((9,),)]))
        for one, other in itertools.product(range(10), repeat=2):
            self.assertIs(is_rests(POINT, 1, up, ("apart", [((one,),)], [((other,),)])), False)
            self.assertIs(is_rests(POINT, 1, up, ("healed", one, [((other,),)])), (one, other) == (9, 9))

    def test_any_value(self):
        still, middle = [(COPY, STILL, (0,))], [(ALONE, MIDDLE, ())]
        store, other = [((4,),)], [((5,),)]
        wrongs = NOTHINGS + [POINT, ("healed", 1), ("healed", 1, store, store), ["healed", 1, store], ("healed", True, store),
                             ("healed", None, store), ("healed", 1, None), ("healed", 1, [4]), ("healed", 1, store * 2),
                             ("healed", 1, []), ("healed", 1, {0: ((4,),)}), ("healed", "1", store), ("apart", store, store),
                             (True, 1, store), (None, 1, store), ("heal", 1, store), ("healed", 1, [((True,),)]),
                             ("healed", 1, ((4,),)), ("apart", None, store), ("apart", store, None), ("apart", 1, store),
                             ("healed", store, 1), ("apart", other, store)]
        self.assertIs(is_rests(POINT, 1, middle, ("healed", 1, store)), True)
        for thing in wrongs:
            self.assertIs(is_rests(POINT, 1, middle, thing), False, thing)
        self.assertIs(is_rests(POINT, 2, middle, ("healed", 2, store * 2)), True)
        for part in (None, ((10,),), ((True,),), (4,)):
            self.assertIs(is_rests(POINT, 2, middle, ("healed", 2, store + [part])), False)
            self.assertIs(is_rests(POINT, 2, middle, ("healed", 2, [part] + store)), False)
        self.assertIs(is_rests(POINT, 1, still, ("apart", store, other)), True)
        for thing in wrongs + [["apart", store, other], ("apart", store), ("apart", store, other, 1), ("apart", store, [5]),
                               ("apart", store * 2, other), ("apart", store, other * 2), ("apart", store, [((10,),)]),
                               ("rest", store, other), (None, store, other), ("healed", store, other), (POINT, store, other)]:
            if thing != ("apart", other, store):
                self.assertIs(is_rests(POINT, 1, still, thing), False, thing)

    def test_as_many_rounds_as_can_be(self):
        stays = ("copy", 0, (0, 0), "none", ())
        piece = (COPY, ring(5), (0,))
        kind, rounds, store = rests(RING, 1, [piece])
        self.assertEqual((kind, rounds), ("healed", 4096))
        self.assertIs(is_rests(RING, 1, [piece], ("healed", 4096, store)), True)
        self.assertIs(is_rests(RING, 1, [piece], ("healed", 4095, store)), False)
        self.assertIs(dies_out(RING, 1, [piece]), True)
        piece = (COPY, ring(6), (0,))
        for call in (rests, dies_out):
            raises(self, TooMany, call, [RING, 1, [piece]], most=4096)
        self.assertIs(is_rests(RING, 1, [piece], ("healed", 4097, shown(RING, 1, [piece], store))), False)
        # Apart, too, they may be at rest behind so many rounds and no more.
        kind, low, high = rests(RING, 1, [(COPY, ring(5, stays), (0,))])
        self.assertEqual((kind, high), ("apart", [flat(RING, 511)]))
        self.assertEqual(low, [((511,) * 4 + (-512,) * 10,) * 2 + ((511,) * 14,) * 2])
        raises(self, TooMany, rests, [RING, 1, [(COPY, ring(6, stays), (0,))]], most=4096)


if __name__ == "__main__":
    unittest.main()
