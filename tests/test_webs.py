import itertools
import random
import unittest

from helpers import NOTHINGS, SHAPE, raises, refuses, wrong_numbers
from pricedreels.errors import BadMany, BadOrder, BadSet, BadWait, BadWeb
from pricedreels.webs import (critical_frame, is_shore, keeping_order, kept, least_kept, most_kept, shore, trades,
                              web_wait)

EXAMPLE = [(), (0, 2), ()]
WRONG_WAITS = wrong_numbers(0, 20)


def chance_web(rng, many):
    order = rng.sample(range(many), many)
    return [tuple(sorted(rng.sample(order[:order.index(frame)], rng.randint(0, min(2, order.index(frame))))))
            for frame in range(many)]


def is_whole(web, told):
    return all(other in told for frame in told for other in web[frame])


def whole_sets(web):
    return [told for many in range(len(web) + 1) for told in itertools.combinations(range(len(web)), many)
            if is_whole(web, told)]


def in_time(web, wait):
    """All orders in time."""
    for order in itertools.permutations(range(len(web))):
        if all(is_whole(web, order[:many]) for many in range(len(web))) and all(
                tick <= wait + frame for tick, frame in enumerate(order)):
            yield order


def plain_kept(web, wait, told):
    tick = len(told) - 1
    return tuple(sorted(frame for frame in told if wait + frame > tick or any(
        frame in web[other] for other in range(len(web)) if other not in told)))


def plain_most(web, wait, order):
    return max(len(plain_kept(web, wait, order[:many + 1])) for many in range(len(order)))


def plain_shore(web, wait, many, thing):
    """Whether whole sets, each once, are a shore."""
    if () not in thing or tuple(range(len(web))) in thing:
        return False
    if any(len(plain_kept(web, wait, told)) > many for told in thing):
        return False
    for told in thing:
        for frame in range(len(web)):
            behind = tuple(sorted(told + (frame,)))
            if frame not in told and len(told) <= wait + frame and is_whole(web, behind):
                if len(plain_kept(web, wait, behind)) <= many and behind not in thing:
                    return False
    return True


def wrong_webs():
    """Values that are no webs, with what BadWeb tells."""
    found = [(thing, None) for thing in (None, True, 0, "", {}, "web", [], (), {0: ()}, SHAPE, [()] * 11)]
    rows = [None, True, 0, [], [0], (0,), (1,), (3,), (-1,), (2, 0), (0, 0), (True,), (False,), ("0",), (None,), {}, "0"]
    found += [([(), row, ()], 1) for row in rows if row not in ((0,), (False,))] + [([(), (False,), ()], 1)]
    found += [([(), (), row], 2) for row in [None, [0, 1], (1, 0), (2,), (0, 2), (0, "1"), (0, True)]]
    found += [([None, None], 0), ([(), 5, 6], 1), ([(1,), (0, 1)], 1), ([(1,), (0,)], None), ([(1,), (2,), (0,)], None),
              ([(), (0, 2), (1,)], None), ([(0,)], 0), ([(1,), (0,), None], 2)]
    return found


class Webs(unittest.TestCase):
    def test_wrong_webs(self):
        calls = [(web_wait, []), (critical_frame, []), (kept, [1, ()]), (most_kept, [1, [0, 1, 2]]), (least_kept, [1]),
                 (keeping_order, [1]), (shore, [1, 1]), (is_shore, [1, 1, ()]), (trades, [])]
        for call, more in calls:
            for web, at in wrong_webs():
                raises(self, BadWeb, call, [web] + more, at=at)
                raises(self, BadWeb, call, [web] + [None for _ in more], at=at)
            right = [1, [0, 2, 1]] if call is most_kept else more
            self.assertEqual(call(tuple(EXAMPLE), *right), call(EXAMPLE, *right))

    def test_largest_ones(self):
        web = [()] + [(frame,) for frame in range(9)]
        self.assertEqual((web_wait(web), critical_frame(web)), (0, 0))
        self.assertEqual(keeping_order(web, 0), tuple(range(10)))
        self.assertEqual(least_kept(web, 0), 1)
        self.assertEqual(trades(web), [(0, 1)])
        turned = [(frame + 1,) for frame in range(9)] + [()]
        self.assertEqual((web_wait(turned), critical_frame(turned), least_kept(turned, 9)), (9, 0, 9))
        self.assertEqual(trades(turned), [(9, 9)])
        self.assertEqual(len(shore([()] * 10, 10, 9)), 1023)
        self.assertIsNone(shore([()] * 10, 10, 10))
        self.assertEqual(trades([()] * 10), [(0, 0)])
        self.assertEqual(trades([()]), [(0, 0)])


class Waiting(unittest.TestCase):
    def test_example(self):
        self.assertEqual((web_wait(EXAMPLE), critical_frame(EXAMPLE)), (1, 1))
        self.assertEqual((least_kept(EXAMPLE, 0), keeping_order(EXAMPLE, 0)), (None, None))
        self.assertEqual(least_kept(EXAMPLE, 1), 2)
        self.assertIn(keeping_order(EXAMPLE, 1), [(0, 2, 1), (2, 0, 1)])
        self.assertEqual(shore(EXAMPLE, 1, 1), ((), (0,), (2,)))
        self.assertEqual(trades(EXAMPLE), [(1, 2)])

    def test_by_the_document(self):
        rng = random.Random(101)
        for _ in range(200):
            web = chance_web(rng, rng.randint(1, 6))
            waits = [wait for wait in range(8) if next(in_time(web, wait), None) is not None]
            self.assertEqual(web_wait(web), min(waits))
            least = [min(len(told) for told in whole_sets(web) if set(range(frame + 1)) <= set(told)) - frame - 1
                     for frame in range(len(web))]
            self.assertEqual(critical_frame(web), least.index(max(least)))
            self.assertEqual(max(least), min(waits))

    def test_wrong_inputs(self):
        refuses(self, least_kept, [EXAMPLE, 0], [(1, WRONG_WAITS, BadWait)])
        refuses(self, keeping_order, [EXAMPLE, 20], [(1, WRONG_WAITS, BadWait)])


class Keeping(unittest.TestCase):
    def test_kept_by_hand(self):
        self.assertEqual([kept(EXAMPLE, 1, told) for told in ((), (0,), (2,), (0, 2), (0, 1, 2))],
                         [(), (0,), (2,), (0, 2), (2,)])
        self.assertEqual(kept(EXAMPLE, 0, (0, 2)), (0, 2))
        self.assertEqual(kept(EXAMPLE, 0, (0, 1, 2)), ())
        self.assertEqual(kept(EXAMPLE, 20, (0, 1, 2)), (0, 1, 2))
        self.assertEqual(kept([(), (), ()], 0, (0, 2)), (2,))
        self.assertEqual(kept([(), (), ()], 2, (0, 1)), (0, 1))
        self.assertEqual(kept([(), (), ()], 1, (0, 1)), (1,))

    def test_by_the_document(self):
        rng = random.Random(102)
        for _ in range(120):
            web = chance_web(rng, rng.randint(1, 6))
            wait = rng.randint(0, 7)
            for told in rng.sample(whole_sets(web), min(4, len(whole_sets(web)))):
                self.assertEqual(kept(web, wait, told), plain_kept(web, wait, told))
            orders = list(in_time(web, wait))
            if not orders:
                self.assertEqual((least_kept(web, wait), keeping_order(web, wait)), (None, None))
                continue
            mosts = [plain_most(web, wait, order) for order in orders]
            self.assertEqual(least_kept(web, wait), min(mosts))
            self.assertIn(keeping_order(web, wait), orders)
            self.assertEqual(plain_most(web, wait, keeping_order(web, wait)), min(mosts))
            for order in rng.sample(orders, min(3, len(orders))):
                self.assertEqual(most_kept(web, wait, order), plain_most(web, wait, order))
                self.assertEqual(most_kept(web, wait, list(order)), plain_most(web, wait, order))

    def test_orders_that_are_none(self):
        rng = random.Random(103)
        for _ in range(15):
            web = chance_web(rng, 3)
            for wait in range(4):
                good = list(in_time(web, wait))
                for order in itertools.product(range(3), repeat=3):
                    if order in good:
                        self.assertEqual(most_kept(web, wait, order), plain_most(web, wait, order))
                    else:
                        raises(self, BadOrder, most_kept, [web, wait, list(order)])

    def test_trades(self):
        rng = random.Random(104)
        falling = [(), (), (1,), (1,), (), (4,), (0, 1)]
        self.assertEqual(trades(falling), [(0, 3), (1, 2)])
        # As few are kept with the wait 2 as with the wait 1, and fewer than with the wait 0.
        level = [(), (0,), (), (0, 1), (2,)]
        self.assertEqual([least_kept(level, wait) for wait in range(6)], [3, 2, 2, 3, 4, 5])
        self.assertEqual(trades(level), [(0, 3), (1, 2)])
        for web in [chance_web(rng, rng.randint(1, 6)) for _ in range(40)] + [falling[:6], falling]:
            found, least = [], None
            for wait in range(web_wait(web), len(web) + 1):
                many = min(plain_most(web, wait, order) for order in in_time(web, wait))
                if least is None or many < least:
                    found.append((wait, many))
                    least = many
            self.assertEqual(trades(web), found)

    def test_wrong_inputs(self):
        sets = NOTHINGS + [SHAPE, [0, 2], (1,), (0, 1), (2, 0), (0, 0), (3,), (-1,), (True,), (0, None), "02", {0: 2},
                           ("0",), (0, 2.5), ((0,), 2)]
        refuses(self, kept, [EXAMPLE, 1, (0, 2)], [
            (1, WRONG_WAITS, BadWait), (2, [thing for thing in sets if thing != ()], BadSet)])
        orders = NOTHINGS + [SHAPE, [0, 2], [0, 1, 2], (1, 0, 2), [0, 2, 1, 1], [0, 0, 2], [0, 2, True], [False, 2, 1],
                             "021", {0: 0, 2: 2, 1: 1}, [0, 2, None], [0, 2, "1"], [0, 2, 3], [0, 2, -1], [[0], 2, 1]]
        refuses(self, most_kept, [EXAMPLE, 1, [0, 2, 1]], [(1, WRONG_WAITS, BadWait), (2, orders, BadOrder)])
        raises(self, BadOrder, most_kept, [EXAMPLE, 0, [0, 2, 1]])


class Shores(unittest.TestCase):
    def test_by_the_document(self):
        rng = random.Random(105)
        for _ in range(150):
            web = chance_web(rng, rng.randint(1, 5))
            wait, many = rng.randint(0, 5), rng.randint(0, 3)
            found = shore(web, wait, many)
            least = [plain_most(web, wait, order) for order in in_time(web, wait)]
            self.assertEqual(found is None, bool(least) and min(least) <= many)
            if found is None:
                self.assertIs(is_shore(web, wait, many, ((),)), plain_shore(web, wait, many, ((),)))
                continue
            self.assertEqual(list(found), sorted(set(found)))
            self.assertTrue(plain_shore(web, wait, many, found))
            self.assertIs(is_shore(web, wait, many, found), True)

    def test_all_sets_of_sets(self):
        # Of all tuples of whole sets those are shores that the document tells, and the one with the fewest sets lies
        # within each of them.
        rng = random.Random(106)
        for web in ([(), ()], [(1,), ()], [(), (0,), ()], EXAMPLE, [(), (0,), (0, 1)]):
            for _ in range(3):
                wait, many = rng.randint(0, 3), rng.randint(0, 2)
                sets = sorted(whole_sets(web))
                shores = []
                for choice in itertools.product((False, True), repeat=len(sets)):
                    thing = tuple(told for told, taken in zip(sets, choice) if taken)
                    good = plain_shore(web, wait, many, thing)
                    self.assertIs(is_shore(web, wait, many, thing), good)
                    if good:
                        shores.append(thing)
                found = shore(web, wait, many)
                self.assertEqual(found, min(shores, key=len) if shores else None)
                self.assertTrue(all(set(found) <= set(thing) for thing in shores))

    def test_values_that_are_none(self):
        good = ((), (0,), (2,))
        self.assertIs(is_shore(EXAMPLE, 1, 1, good), True)
        self.assertIs(is_shore(EXAMPLE, 1, 0, good), False)
        for thing in NOTHINGS + [SHAPE, list(good), ((), (0,)), ((0,), (2,)), ((), (2,), (0,)), ((), (0,), (0,), (2,)),
                                 ((), [0], (2,)), ((), (0,), (1,), (2,)), ((), (0,), (0, 1, 2), (2,)), ((), (0,), (0, 2), (2,)),
                                 ((), (False,), (2,)), ((), (0,), (2, 0)), ((), (0,), (2,), (3,)), ((), (0,), (2,), None),
                                 ((), (0,), "2"), ((), 0, 2), {(): 1, (0,): 1, (2,): 1}, (None, (), (0,), (2,)),
                                 ((), (0,), (2,), (2,)), ((), (), (0,), (2,)), ((0,), (), (2,))]:
            self.assertIs(is_shore(EXAMPLE, 1, 1, thing), False, thing)

    def test_wrong_inputs(self):
        checks = [(1, WRONG_WAITS, BadWait), (2, wrong_numbers(0, 10), BadMany)]
        refuses(self, shore, [EXAMPLE, 20, 10], checks)
        refuses(self, is_shore, [EXAMPLE, 0, 0, None], checks)


if __name__ == "__main__":
    unittest.main()
