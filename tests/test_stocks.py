import itertools
import random
import unittest

from helpers import NOTHINGS, SHAPE, raises, refuses
from pricedreels.errors import BadChosen, BadShares, BadStock, BadWanted
from pricedreels.gains import greatest_gain
from pricedreels.stocks import (choice_cost, cut_choices, floor_of, is_least_cut, is_shares, least_cut, shares, staying)

EXAMPLE = ([(), (0,), (1,)], [10, 2, 2], [10, 9, 9])
WRONG_LOTS = [thing for thing in NOTHINGS if thing not in ((), (1,))] + [
    SHAPE, [1], (1, 0), (1, 1), (3,), (-1,), (1, 3), (True,), (0, True), (None,), ("0",), "01", {0: 1}]


def plain_staying(stock, chosen):
    leans, told, anew = stock
    return tuple(k for k in chosen if told[k] <= anew[k] and set(leans[k]) <= set(chosen))


def plain_cost(stock, chosen):
    stays = plain_staying(stock, chosen)
    return sum(stock[1][k] if k in stays else stock[2][k] for k in chosen)


def all_choices(stock, wanted):
    items = range(len(stock[0]))
    return [chosen for many in range(len(stock[0]) + 1) for chosen in itertools.combinations(items, many) if set(wanted) <= set(chosen)]


def chance_stock(rng, many, most=9):
    leans = [tuple(sorted(rng.sample(range(k), rng.randint(0, min(k, 3))))) for k in range(many)]
    told = [rng.choice([0, rng.randint(0, most), rng.randint(0, most)]) for _ in range(many)]
    anew = [rng.choice([0, rng.randint(0, most), rng.randint(0, 2 * most)]) for _ in range(many)]
    return leans, told, anew


def chance_wanted(rng, many):
    return tuple(sorted(rng.sample(range(many), rng.randint(1, many))))


def plain_is_shares(stock, wanted, thing):
    leans, told, anew = stock
    gains = [max(0, b - a) for a, b in zip(told, anew)]
    items = range(len(leans))
    return (all(k in items and (j == k or j in leans[k]) and j not in wanted and n >= 1 for (k, j), n in thing.items())
            and all(sum(n for (a, _), n in thing.items() if a == k) <= gains[k] for k in items)
            and all(sum(n for (_, b), n in thing.items() if b == j) <= anew[j] for j in items))


def plain_floor(stock, wanted, thing):
    return sum(stock[2][k] for k in wanted) - sum(max(0, b - a) for a, b in zip(stock[1], stock[2])) + sum(thing.values())


def wrong_stocks():
    """Values that are no stocks, with what BadStock tells."""
    leans, told, anew = EXAMPLE
    found = [(thing, None) for thing in NOTHINGS + [SHAPE, list(EXAMPLE), EXAMPLE[:2], EXAMPLE + ([],)]]
    lists = [None, True, 0, "x", {}, (), [], SHAPE, [()] * 33, {0: ()}, [(), (0,), (0, 1), [0]]]
    rows = [None, True, 0, [], [0], "0", {}, (2,), (3,), (-1,), (0, 0), (1, 0), (True,), (False,), (None,), ("0",)]
    found += [((each, told, None), "leans") for each in lists] + [(([(), (0,), row], told, anew), "leans") for row in rows]
    found += [(([(0,), (), ()], told, anew), "leans"), (([(), (1,), ()], None, anew), "leans"), (([[], (), ()], told, anew), "leans")]
    numbers = [None, True, "1", -1, 1000000, (1,), [1]]
    for each in [None, True, 0, "111", {0: 1, 1: 1, 2: 1}, [], [1, 2], [1, 2, 3, 4], SHAPE] + [[1, 2, number] for number in numbers] + [
            [number, 2, 3] for number in numbers]:
        found += [((leans, each, None), "told"), ((leans, told, each), "anew")]
    return found


class Stocks(unittest.TestCase):
    def test_example(self):
        self.assertEqual(least_cut(EXAMPLE, (1, 2)), 11)
        self.assertEqual(staying(EXAMPLE, (1, 2), (1, 2)), (2,))
        self.assertEqual(choice_cost(EXAMPLE, (1, 2), (0, 1, 2)), 14)
        self.assertEqual(choice_cost(EXAMPLE, (1, 2), (1, 2)), 11)
        self.assertEqual(cut_choices(EXAMPLE, (1, 2)), ((1, 2), (1, 2)))
        self.assertEqual(floor_of(EXAMPLE, (1, 2), {(1, 0): 7}), 11)
        self.assertIs(is_least_cut(EXAMPLE, (1, 2), (1, 2), {(1, 0): 7}), True)
        self.assertEqual(shares(EXAMPLE, (1, 2)), {(1, 0): 7})

    def test_by_all_choices(self):
        rng = random.Random(601)
        several = 0
        for _ in range(300):
            many = rng.randint(1, 7)
            stock, wanted = chance_stock(rng, many, rng.choice([1, 3, 9, 999])), None
            wanted = chance_wanted(rng, many)
            choices = all_choices(stock, wanted)
            costs = {chosen: plain_cost(stock, chosen) for chosen in choices}
            for chosen in rng.sample(choices, min(4, len(choices))):
                self.assertEqual(choice_cost(stock, wanted, chosen), costs[chosen])
                self.assertEqual(staying(stock, wanted, chosen), plain_staying(stock, chosen))
            least = min(costs.values())
            best = [set(chosen) for chosen in choices if costs[chosen] == least]
            several += len(best) > 2
            self.assertEqual(least_cut(stock, wanted), least)
            self.assertEqual(cut_choices(stock, wanted), (tuple(sorted(set.intersection(*best))), tuple(sorted(set.union(*best)))))
            self.assertIn(set.intersection(*best), best)
            self.assertIn(set.union(*best), best)
            for one, other in itertools.combinations(best[:6], 2):
                self.assertTrue(one & other in best and one | other in best)
            paper = shares(stock, wanted)
            self.assertIs(plain_is_shares(stock, wanted, paper), True)
            self.assertEqual(list(paper), sorted(paper))
            self.assertIs(is_shares(stock, wanted, paper), True)
            self.assertEqual(floor_of(stock, wanted, paper), least)
            self.assertEqual(plain_floor(stock, wanted, paper), least)
            for chosen in rng.sample(choices, min(4, len(choices))):
                self.assertIs(is_least_cut(stock, wanted, chosen, paper), costs[chosen] == least)
        self.assertGreater(several, 20)

    def test_shares(self):
        rng = random.Random(602)
        kinds = {True: 0, False: 0}
        for _ in range(400):
            many = rng.randint(1, 4)
            stock, wanted = chance_stock(rng, many, 4), chance_wanted(rng, many)
            pairs = [(k, j) for k in range(many) for j in range(many) if j == k or rng.random() < 0.5 or j in stock[0][k]]
            thing = {pair: rng.randint(1, 4) for pair in rng.sample(pairs, min(len(pairs), rng.randint(0, 3)))}
            expected = plain_is_shares(stock, wanted, thing)
            kinds[expected] += 1
            self.assertIs(is_shares(stock, wanted, thing), expected)
            if expected:
                self.assertEqual(floor_of(stock, wanted, thing), plain_floor(stock, wanted, thing))
                self.assertLessEqual(floor_of(stock, wanted, thing), least_cut(stock, wanted))
                for chosen in all_choices(stock, wanted):
                    self.assertIs(is_least_cut(stock, wanted, chosen, thing), plain_cost(stock, chosen) == plain_floor(stock, wanted, thing))
            else:
                raises(self, BadShares, floor_of, [stock, wanted, thing])
                self.assertIs(is_least_cut(stock, wanted, cut_choices(stock, wanted)[0], thing), False)
        self.assertGreater(min(kinds.values()), 40)

    def test_edges(self):
        self.assertEqual(cut_choices(([()], [5], [3]), (0,)), ((0,), (0,)))
        self.assertEqual((least_cut(([()], [5], [3]), (0,)), least_cut(([()], [3], [5]), (0,))), (3, 3))
        self.assertEqual((staying(([()], [5], [5]), (0,), (0,)), staying(([()], [6], [5]), (0,), (0,))), ((0,), ()))
        # What costs nothing lies within the greater choice alone.
        self.assertEqual(cut_choices(([(), ()], [4, 0], [4, 0]), (0,)), ((0,), (0, 1)))
        self.assertEqual(shares(([(), ()], [4, 0], [4, 0]), (0,)), {})
        free = ([()] * 32, [1] * 32, [2] * 32)
        self.assertEqual(least_cut(free, tuple(range(32))), 32)
        self.assertEqual(cut_choices(free, (31,)), ((31,), (31,)))
        # What saves as much as it costs can be there or not.
        self.assertEqual(cut_choices(([(), (0,)], [3, 2], [3, 5]), (1,)), ((1,), (0, 1)))
        self.assertEqual(cut_choices(([(), (0,)], [3, 2], [2, 5]), (1,)), ((0, 1), (0, 1)))
        self.assertEqual(cut_choices(([(), (0,)], [3, 2], [4, 5]), (1,)), ((1,), (0, 1)))
        self.assertEqual(least_cut(([(), (0,)], [999999, 0], [999999, 999999]), (1,)), 999999)

    def test_by_gains_of_webs(self):
        rng = random.Random(603)
        for _ in range(80):
            many = rng.randint(1, 5)
            stock, wanted = chance_stock(rng, many), chance_wanted(rng, many)
            leans, told, anew = stock
            free = [k for k in range(many) if k not in wanted]
            web = [() for _ in free] + [tuple(free.index(j) for j in sorted(leans[k] + (k,)) if j in free) for k in range(many)]
            gains = [-anew[k] for k in free] + [max(0, anew[k] - told[k]) for k in range(many)]
            if len(web) <= 10:
                self.assertEqual(least_cut(stock, wanted), sum(anew[k] for k in wanted) - greatest_gain(web, gains))

    def test_more_wanted(self):
        rng = random.Random(604)
        for _ in range(100):
            many = rng.randint(2, 12)
            stock = chance_stock(rng, many, rng.choice([3, 99]))
            one, other = set(chance_wanted(rng, many)), set(chance_wanted(rng, many))
            both, common = tuple(sorted(one | other)), tuple(sorted(one & other))
            one, other = tuple(sorted(one)), tuple(sorted(other))
            self.assertLessEqual(max(least_cut(stock, one), least_cut(stock, other)), least_cut(stock, both))
            if common:
                self.assertLessEqual(least_cut(stock, both) + least_cut(stock, common), least_cut(stock, one) + least_cut(stock, other))

    def test_many_items(self):
        rng = random.Random(605)
        for _ in range(15):
            stock, wanted = chance_stock(rng, 32, 999999 // 2), tuple(sorted(rng.sample(range(32), rng.randint(1, 6))))
            paper, (least, most) = shares(stock, wanted), cut_choices(stock, wanted)
            self.assertIs(plain_is_shares(stock, wanted, paper), True)
            self.assertLessEqual(set(least), set(most))
            for chosen in (least, most):
                self.assertEqual(plain_cost(stock, chosen), plain_floor(stock, wanted, paper))
                self.assertIs(is_least_cut(stock, wanted, chosen, paper), True)

    def test_wrong_inputs(self):
        for call, more in ((choice_cost, [(1, 2)]), (staying, [(1, 2)]), (least_cut, []), (cut_choices, []), (shares, []),
                           (is_shares, [None]), (floor_of, [{}]), (is_least_cut, [None, None])):
            for stock, part in wrong_stocks():
                raises(self, BadStock, call, [stock, (1, 2)] + more, part=part)
                raises(self, BadStock, call, [stock, None] + [None for _ in more], part=part)
            self.assertEqual(call(tuple(tuple(part) for part in EXAMPLE), (1, 2), *more), call(EXAMPLE, (1, 2), *more))
            wanted = [thing for thing in WRONG_LOTS] + [()]
            refuses(self, call, [EXAMPLE, (1, 2)] + more, [(1, wanted, BadWanted)])
        for call in (choice_cost, staying):
            refuses(self, call, [EXAMPLE, (1,), (1,)], [(1, WRONG_LOTS + [()], BadWanted),
                                                      (2, WRONG_LOTS + [(), (0,), (2,), (0, 2)], BadChosen)])
        wrongs = [thing for thing in NOTHINGS if thing != {}] + [
            SHAPE, {(1, 0): 0}, {(1, 0): 8}, {(1, 0): -1}, {(1, 0): True}, {(1, 0): None}, {(1, 0): "7"}, {(True, 0): 7}, {(1, False): 7},
            {(1, 1): 1}, {(2, 1): 1}, {(2, 0): 1}, {(0, 1): 1}, {(1,): 7}, {(1, 0, 0): 7}, {1: 7}, {"10": 7}, {(1, 3): 1}, {(3, 0): 1},
            {(1, 0): 7, None: 1}, [((1, 0), 7)], ((1, 0), 7), {(1, 0): 7, (0, 0): 1}, {(-1, 0): 1}, {(1, -1): 1}, {((1, 0),): 7}]
        for thing in wrongs:
            self.assertIs(is_shares(EXAMPLE, (1, 2), thing), False, thing)
            self.assertIs(is_least_cut(EXAMPLE, (1, 2), (1, 2), thing), False, thing)
            raises(self, BadShares, floor_of, [EXAMPLE, (1, 2), thing])
        for chosen in WRONG_LOTS + [(), (1,), (2,), (0, 1)]:
            self.assertIs(is_least_cut(EXAMPLE, (1, 2), chosen, {(1, 0): 7}), False, chosen)
        self.assertIs(is_least_cut(EXAMPLE, (1, 2), (0, 1, 2), {(1, 0): 7}), False)
        self.assertIs(is_least_cut(EXAMPLE, (1, 2), (1, 2), {(1, 0): 6}), False)
        self.assertIs(is_shares(EXAMPLE, (1, 2), {}), True)
        cheap = ([(), (0,), (0,)], [1, 0, 0], [3, 9, 9])
        for pair in ({(1, 0): 3}, {(1, 0): 2, (2, 0): 1}, {(1, 1): 9}, {(1, 0): 3, (1, 1): 6}):
            self.assertIs(is_shares(cheap, (2,), pair), True)
        for pair in ({(1, 0): 4}, {(1, 0): 2, (2, 0): 2}, {(1, 1): 10}, {(1, 0): 3, (1, 1): 7}):
            self.assertIs(is_shares(cheap, (2,), pair), False)


if __name__ == "__main__":
    unittest.main()
