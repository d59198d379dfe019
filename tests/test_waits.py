import itertools
import random
import unittest

from helpers import NOTHINGS, SHAPE, raises, refuses, wrong_numbers
from pricedreels.errors import BadOrder, BadReel, BadWait
from pricedreels.grids import Shape
from pricedreels.heads import Head
from pricedreels.reels import Reel, needed, reel_bits, shown_planes, told_planes
from pricedreels.waits import critical_place, kept_pictures, least_wait, retold, wait_of, wait_order
from told import chance_reel

PAIR = Shape(2, 2, 0, 9)
HEADS = [Head(0, 0, 0, 0, (1, 0, 0, 0, 0, 0, 0, 0)), Head(1, 0, 0, 0, (1, 0, 0, 0, 0, 0, 0, 1)),
         Head(2, 0, 0, 0, (1, 0, 0, 0, 0, 0, 2, 2))]
NO_REEL = (0, NOTHINGS + [SHAPE, 0, (PAIR, ())], BadReel, {"part": None})


def reel_of(*rows):
    """The reel of items, each a place at which it is shown and those on which it leans."""
    items = []
    for number, (show, *leans) in enumerate(rows):
        telling = (((0, 0, 8), ("flat", "plain", (number % 5, 0, 0, number // 5))),)
        items.append((show, tuple(leans), HEADS[len(leans)], telling))
    return Reel(PAIR, items)


def chance_rows(rng, many):
    shows = rng.sample(range(many), many)
    return [(shows[number],) + tuple(rng.randrange(number) for _ in range(rng.choice([0, 1, 1, 2]) if number else 0))
            for number in range(many)]


def orders_of(reel):
    """All orders of telling, ascending, plainly."""
    for order in itertools.permutations(range(len(reel))):
        if all(order.index(lean) < order.index(number) for number in order for lean in reel.entries[number][1]):
            yield order


def plain_wait(reel, order):
    return max(0, max(tick - reel.entries[number][0] for tick, number in enumerate(order)))


class Retelling(unittest.TestCase):
    def test_by_hand(self):
        reel = reel_of((2,), (0, 0), (1,), (3, 2, 0))
        other = retold(reel, (2, 0, 3, 1))
        told = reel.entries
        self.assertEqual(other.entries, ((1, (), told[2][2], told[2][3]), (2, (), told[0][2], told[0][3]),
                                         (3, (0, 1), told[3][2], told[3][3]), (0, (1,), told[1][2], told[1][3])))
        self.assertEqual(other.shape, PAIR)
        self.assertEqual(retold(reel, (0, 1, 2, 3)), reel)

    def test_there_and_back(self):
        rng = random.Random(91)
        for _ in range(60):
            shape = Shape(2, 3, 0, 9)
            reel = chance_reel(rng, shape, rng.randint(1, 5))
            order = rng.choice(list(orders_of(reel)))
            other = retold(reel, order)
            self.assertEqual(shown_planes(other), shown_planes(reel))
            self.assertEqual([told_planes(reel)[number] for number in order], told_planes(other))
            back = tuple(order.index(number) for number in range(len(reel)))
            self.assertEqual(retold(other, back), reel)
            self.assertEqual(reel_bits(retold(other, back)), reel_bits(reel))

    def test_all_orders(self):
        rng = random.Random(92)
        for _ in range(12):
            reel = reel_of(*chance_rows(rng, 4))
            good = set(orders_of(reel))
            for order in itertools.product(range(4), repeat=4):
                if order in good:
                    self.assertEqual(len(retold(reel, order)), 4)
                else:
                    raises(self, BadOrder, retold, [reel, order])

    def test_wrong_inputs(self):
        wrong = NOTHINGS + [SHAPE, [0, 1, 2], (0, 1), (0, 1, 2, 3), (0, 0, 1), (1, 0, 2), (0, 2, 3), (-1, 0, 1),
                            (0, True, 2), (False, 1, 2), (0, 1, None), (0, 1, "2"), "012", {0: 0, 1: 1, 2: 2}, (0, 1, (2,))]
        refuses(self, retold, [reel_of((0,), (1, 0), (2,)), (0, 2, 1)], [NO_REEL, (1, wrong, BadOrder)])


class Waiting(unittest.TestCase):
    def test_by_hand(self):
        self.assertEqual(wait_of(reel_of((0,))), 0)
        self.assertEqual(wait_of(reel_of((0,), (1,), (2,))), 0)
        self.assertEqual(wait_of(reel_of((1,), (2,), (0,))), 2)
        self.assertEqual(wait_of(reel_of((2,), (0,), (1,))), 1)
        # The picture of the place 1 leans on that of the place 3: three are needed up to it, or up to the place 0.
        reel = reel_of((3,), (0,), (1, 0, 1), (2,))
        self.assertEqual((wait_of(reel), least_wait(reel), critical_place(reel)), (1, 1, 1))
        self.assertEqual(wait_order(reel), (0, 1, 2, 3))
        reel = reel_of((3,), (2, 0), (1,), (0, 1))
        self.assertEqual((wait_of(reel), least_wait(reel), critical_place(reel)), (3, 2, 0))
        self.assertEqual(wait_order(reel), (0, 1, 3, 2))
        reel = reel_of((1,), (0,))
        self.assertEqual((wait_of(reel), least_wait(reel), critical_place(reel), wait_order(reel)), (1, 0, 0, (1, 0)))

    def test_all_orders(self):
        rng = random.Random(93)
        for _ in range(150):
            reel = reel_of(*chance_rows(rng, rng.randint(1, 6)))
            waits = {order: plain_wait(reel, order) for order in orders_of(reel)}
            least = min(waits.values())
            self.assertEqual(wait_of(reel), plain_wait(reel, range(len(reel))))
            self.assertEqual(least_wait(reel), least)
            self.assertEqual(wait_order(reel), min(order for order in waits if waits[order] == least))
            self.assertEqual(wait_of(retold(reel, wait_order(reel))), least)
            ahead = [len(set().union(*[needed(reel, other) for other in range(place + 1)])) - place - 1
                     for place in range(len(reel))]
            self.assertEqual(critical_place(reel), ahead.index(max(ahead)))
            self.assertEqual(max(ahead), least)

    def test_large_ones(self):
        rng = random.Random(94)
        for many in (12, 20, 32):
            for _ in range(8):
                reel = reel_of(*chance_rows(rng, many))
                order = wait_order(reel)
                self.assertEqual(wait_of(retold(reel, order)), least_wait(reel))
                self.assertEqual(plain_wait(reel, order), least_wait(reel))
                self.assertLessEqual(least_wait(reel), wait_of(reel))
        reel = reel_of(*[(31 - number,) for number in range(32)])
        self.assertEqual((wait_of(reel), least_wait(reel), wait_order(reel)), (31, 0, tuple(range(31, -1, -1))))
        chain = reel_of((31,), *[(31 - number, number - 1) for number in range(1, 32)])
        self.assertEqual((wait_of(chain), least_wait(chain), critical_place(chain)), (31, 31, 0))

    def test_wrong_inputs(self):
        for call in (wait_of, least_wait, wait_order, critical_place):
            refuses(self, call, [reel_of((0,), (1, 0))], [NO_REEL])


class Keeping(unittest.TestCase):
    def test_by_hand(self):
        reel = reel_of((0,), (1,), (2,))
        self.assertEqual(kept_pictures(reel, 0), [0, 0, 0])
        self.assertEqual(kept_pictures(reel, 1), [1, 1, 1, 0])
        self.assertEqual(kept_pictures(reel, 3), [1, 2, 3, 2, 1, 0])
        # Item 0 is shown at once and is a reference of item 2.
        self.assertEqual(kept_pictures(reel_of((0,), (1,), (2, 0)), 0), [1, 1, 0])
        # Items 0 and 1 are told ahead of being shown.
        self.assertEqual(kept_pictures(reel_of((2,), (1, 0), (0, 0, 1)), 2), [1, 2, 2, 1, 0])
        self.assertEqual(kept_pictures(reel_of((0,)), 40), [1] * 40 + [0])

    def test_by_the_document(self):
        rng = random.Random(95)
        for _ in range(100):
            reel = reel_of(*chance_rows(rng, rng.randint(1, 8)))
            wait = wait_of(reel) + rng.choice([0, 0, 1, 3])
            found = []
            for tick in range(wait + len(reel)):
                kept = [number for number, item in enumerate(reel.entries) if number <= tick and (
                    wait + item[0] > tick or any(number in other[1] for other in reel.entries[tick + 1:]))]
                found.append(len(kept))
            self.assertEqual(kept_pictures(reel, wait), found)
            self.assertEqual(found[-1], 0)

    def test_wrong_inputs(self):
        refuses(self, kept_pictures, [reel_of((1,), (2,), (0,)), 2], [NO_REEL, (1, wrong_numbers(2, 40), BadWait)])
        refuses(self, kept_pictures, [reel_of((0,)), 40], [NO_REEL, (1, wrong_numbers(0, 40), BadWait)])


if __name__ == "__main__":
    unittest.main()
