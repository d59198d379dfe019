import itertools
import random
import unittest
from fractions import Fraction

from helpers import NOTHINGS, SHAPE, raises, refuses, wrong_numbers
from pricedreels.errors import BadGains, BadPrice, BadShift, BadSizes, BadWeb, BadWorths
from pricedreels.gains import (best_sets, greatest_gain, is_best, is_shift, shift, shift_bound, thinned, thinnings)
from test_webs import chance_web, whole_sets, wrong_webs

WEB = [(), (0,)]
WIDE = [(1, 2), (), (), (0, 2)]
NO_WEB = (0, [None, [], {}], BadWeb, {"at": None})


def gain_of(gains, chosen):
    return sum(gains[frame] for frame in chosen)


def pairs_of(web):
    return [(frame, other) for frame, row in enumerate(web) for other in row]


def plain_bound(web, gains, paper):
    left = list(gains)
    for (frame, other), number in paper.items():
        left[frame] -= number
        left[other] += number
    return sum(number for number in left if number > 0)


def best_of(web, gains):
    """All whole sets with the greatest gain."""
    sets = whole_sets(web)
    most = max(gain_of(gains, chosen) for chosen in sets)
    return most, [chosen for chosen in sets if gain_of(gains, chosen) == most]


def wrong_lists(low, high, many):
    """Values that are no lists of so many numbers from low to high."""
    right = [low] * many
    return [None, True, 0, "", {}, [], (), right + [low], right[1:], SHAPE, {low: low, high: high}, "1" * many] + [
        right[:at] + [part] + right[at + 1:] for at in range(many)
        for part in (None, True, False, "0", (0,), [0], low - 1, high + 1, SHAPE)]


class Gains(unittest.TestCase):
    def test_example(self):
        self.assertEqual(greatest_gain(WEB, [-3, 5]), 2)
        self.assertEqual(best_sets(WEB, [-3, 5]), ((0, 1), (0, 1)))
        self.assertEqual(shift_bound(WEB, [-3, 5], {(1, 0): 3}), 2)
        self.assertIs(is_best(WEB, [-3, 5], (0, 1), {(1, 0): 3}), True)

    def test_by_hand(self):
        self.assertEqual((greatest_gain(WEB, [-3, 3]), best_sets(WEB, [-3, 3])), (0, ((), (0, 1))))
        self.assertEqual((greatest_gain(WEB, [-3, 2]), best_sets(WEB, [-3, 2])), (0, ((), ())))
        self.assertEqual((greatest_gain(WEB, [3, 0]), best_sets(WEB, [3, 0])), (3, ((0,), (0, 1))))
        self.assertEqual((greatest_gain([()], [0]), best_sets([()], [0])), (0, ((), (0,))))
        self.assertEqual(greatest_gain([()], [-9999999999]), 0)
        self.assertEqual(greatest_gain([()] * 10, [9999999999] * 10), 99999999990)
        self.assertEqual(shift_bound(WEB, [-3, 5], {(1, 0): 0}), 5)
        self.assertEqual(shift_bound(WEB, [-3, 5], {(1, 0): 4}), 2)
        self.assertEqual(shift_bound(WEB, [-3, 5], {(1, 0): 9}), 6)
        self.assertEqual((shift([()], [5]), shift_bound([()], [5], {})), ({}, 5))

    def test_by_the_document(self):
        rng = random.Random(111)
        for _ in range(250):
            web = chance_web(rng, rng.randint(1, 7))
            most = rng.choice([2, 9, 9999999999])
            gains = [rng.randint(-most, most) for _ in web]
            greatest, best = best_of(web, gains)
            self.assertEqual(greatest_gain(web, gains), greatest)
            least, largest = best_sets(web, tuple(gains))
            self.assertIn(least, best)
            self.assertIn(largest, best)
            self.assertTrue(all(set(least) <= set(chosen) <= set(largest) for chosen in best))
            for one, other in itertools.combinations(best[:6], 2):
                self.assertIn(tuple(sorted(set(one) & set(other))), best)
                self.assertIn(tuple(sorted(set(one) | set(other))), best)
            paper = shift(web, gains)
            self.assertEqual(list(paper), pairs_of(web))
            self.assertTrue(all(number >= 0 for number in paper.values()))
            self.assertEqual(plain_bound(web, gains, paper), greatest)
            self.assertEqual(shift_bound(web, gains, paper), greatest)
            self.assertIs(is_shift(web, paper), True)
            for chosen in best:
                self.assertIs(is_best(web, gains, chosen, paper), True)
            for chosen in rng.sample(whole_sets(web), min(3, len(whole_sets(web)))):
                self.assertIs(is_best(web, gains, chosen, paper), chosen in best)
            for _ in range(3):
                other = {pair: rng.randint(0, 9) for pair in pairs_of(web)}
                bound = plain_bound(web, gains, other)
                self.assertEqual(shift_bound(web, gains, other), bound)
                self.assertGreaterEqual(bound, greatest)
                self.assertIs(is_best(web, gains, best[0], other), bound == greatest)

    def test_back_along_a_pair(self):
        # What was shifted one way at first has to go another way, so that all finds room.
        rng = random.Random(112)
        for _ in range(300):
            web = chance_web(rng, 10)
            gains = [rng.choice([-4, -3, -2, -1, 1, 2, 3, 4]) for _ in web]
            self.assertEqual(shift_bound(web, gains, shift(web, gains)), greatest_gain(web, gains))

    def test_values_that_are_none(self):
        good = {(0, 1): 2, (0, 2): 0, (3, 0): 5, (3, 2): 1}
        self.assertIs(is_shift(WIDE, good), True)
        self.assertIs(is_shift(WIDE, dict(reversed(list(good.items())))), True)
        self.assertIs(is_shift([()], {}), True)
        less = {pair: number for pair, number in good.items() if pair != (0, 1)}
        wrongs = [thing for thing in NOTHINGS if thing != {}] + [
            {}, SHAPE, list(good.items()), tuple(good), less, {**good, (1, 0): 0}, {**less, (1, 0): 0}, {**good, "x": 0},
            {**less, (0, True): 0}, {**less, (False, 1): 0}, {**less, (0, 1, 0): 0}, {**less, None: 0}, {**less, 1: 0}]
        wrongs += [{**good, (3, 0): number} for number in (-1, None, True, False, "0", (0,), SHAPE)]
        for thing in wrongs:
            self.assertIs(is_shift(WIDE, thing), False, thing)
            raises(self, BadShift, shift_bound, [WIDE, [1, 2, 3, 4], thing])
            self.assertIs(is_best(WIDE, [0, 0, 0, 0], (), thing), False)
        self.assertIs(is_best(WIDE, [0] * 4, (), {pair: 0 for pair in good}), True)
        for chosen in NOTHINGS + [SHAPE, [], [1], (0,), (0, 1), (2, 1), (1, 1), (4,), (-1,), (True,), "1", {1: 1}, ((1,),)]:
            expected = chosen == () and isinstance(chosen, tuple) or chosen == (1,) and chosen[0] is not True
            self.assertIs(is_best(WIDE, [0] * 4, chosen, {pair: 0 for pair in good}), expected, chosen)

    def test_wrong_inputs(self):
        gains = wrong_lists(-9999999999, 9999999999, 2)
        for call in (greatest_gain, best_sets, shift):
            refuses(self, call, [WEB, [9999999999, -9999999999]], [NO_WEB, (1, gains, BadGains)])
        refuses(self, shift_bound, [WEB, [0, 0], {(1, 0): 0}], [NO_WEB, (1, gains, BadGains), (2, [None], BadShift)])
        refuses(self, is_best, [WEB, [0, 0], None, None], [NO_WEB, (1, gains, BadGains)])
        for call, more in ((greatest_gain, [None]), (best_sets, [None]), (shift, [None]), (is_shift, [None]),
                           (shift_bound, [None, None]), (is_best, [None, None, None]), (thinned, [None, None, None]),
                           (thinnings, [None, None])):
            for web, at in wrong_webs():
                raises(self, BadWeb, call, [web] + more, at=at)


class Thinning(unittest.TestCase):
    def test_example(self):
        self.assertEqual(thinnings(WEB, [1, 5], [4, 2]), [((0, 1), (0, 1)), ((1, 1), ())])
        self.assertEqual([thinned(WEB, [1, 5], [4, 2], price) for price in ((0, 1), (1, 1), (101, 100), (2, 2), (99999, 1))],
                         [(0, 1), (0, 1), (), (0, 1), ()])

    def test_by_hand(self):
        self.assertEqual(thinnings([(), ()], [6, 4], [4, 6]), [((0, 1), (0, 1)), ((2, 3), (0,)), ((3, 2), ())])
        # Frames of no bits stay for ever, frames of no worth go at once, those of neither stay.
        self.assertEqual(thinnings([(), (), (), ()], [6, 0, 0, 2], [0, 3, 0, 1]), [((0, 1), (0, 2, 3)), ((2, 1), (0, 2))])
        self.assertEqual(thinnings([()], [0], [0]), [((0, 1), (0,))])
        self.assertEqual(thinnings([()], [0], [1]), [((0, 1), ())])
        self.assertEqual(thinnings([()], [9999], [9999]), [((0, 1), (0,)), ((1, 1), ())])
        self.assertEqual(thinned([()], [0], [1], (0, 5)), (0,))
        # Two bends at one price are one.
        self.assertEqual(thinnings([(), ()], [2, 4], [1, 2]), [((0, 1), (0, 1)), ((2, 1), ())])

    def test_by_the_document(self):
        rng = random.Random(113)
        for _ in range(200):
            web = chance_web(rng, rng.randint(1, 6))
            most = rng.choice([3, 20, 9999])
            worths, sizes = [[rng.choice([0, rng.randint(0, most)]) for _ in web] for _ in range(2)]
            points = {(gain_of(sizes, chosen), gain_of(worths, chosen)) for chosen in whole_sets(web)}
            crossings = {Fraction(worth - other, size - less) for size, worth in points for less, other in points
                         if size > less and worth > other}
            ends = [Fraction(0)] + sorted(crossings)
            between = [(one + other) / 2 for one, other in zip(ends, ends[1:])] + [ends[-1] + 1]
            expected = []
            for price, near in zip(ends, between):
                chosen = self.largest(web, worths, sizes, near)
                if not expected or chosen != expected[-1][1]:
                    expected.append(((price.numerator, price.denominator), chosen))
            found = thinnings(web, worths, sizes)
            self.assertEqual(found, expected)
            self.assertEqual(found, thinnings(tuple(web), tuple(worths), tuple(sizes)))
            for price in rng.sample(ends + between, min(4, len(ends))):
                if price.numerator < 100000 > price.denominator:
                    self.assertEqual(thinned(web, worths, sizes, (price.numerator, price.denominator)),
                                     self.largest(web, worths, sizes, price))
            sets = [chosen for _, chosen in found]
            self.assertTrue(all(set(other) < set(one) for one, other in zip(sets, sets[1:])))

    def largest(self, web, worths, sizes, price):
        """The one within which all sets with the greatest gain at this price lie."""
        gains = [worth - price * size for worth, size in zip(worths, sizes)]
        best = best_of(web, gains)[1]
        chosen = max(best, key=len)
        self.assertTrue(all(set(other) <= set(chosen) for other in best))
        return chosen

    def test_wrong_inputs(self):
        lists = wrong_lists(0, 9999, 2)
        prices = NOTHINGS + [SHAPE, [1, 1], (1,), (1, 1, 1), (-1, 1), (100000, 1), (1, 0), (1, 100000), (True, 1), (1, True),
                             (None, 1), (1, "1"), (0, -1), "11", {1: 1, 2: 2}]
        refuses(self, thinned, [WEB, [9999, 0], [0, 9999], (99999, 99999)], [
            NO_WEB, (1, lists, BadWorths), (2, lists, BadSizes), (3, prices, BadPrice)])
        refuses(self, thinnings, [WEB, [9999, 0], [0, 9999]], [NO_WEB, (1, lists, BadWorths), (2, lists, BadSizes)])
        self.assertEqual(thinned(WEB, [9999, 9999], [9999, 9999], (0, 1)), (0, 1))


if __name__ == "__main__":
    unittest.main()
