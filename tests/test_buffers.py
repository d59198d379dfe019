import itertools
import random
import unittest

from helpers import NOTHINGS, SHAPE, raises, refuses, wrong_numbers
from pricedreels.buffers import (all_delay, all_room, are_within, corners, crush, is_crush, is_sending, is_share, is_strait,
                                 least_delay, least_hold, least_line_rate, least_room, least_shared_rate, sending, share,
                                 strait, worst_sizes)
from pricedreels.errors import BadBounds, BadDelay, BadHold, BadJobs, BadRate, BadRoom, BadSizes, TooMany

WRONG_SIZES = [thing for thing in NOTHINGS if thing not in ([1], (1,))] + [
    SHAPE, [1] * 13, [10000], [-1], [True], [1, None], [0, "1"], "11", {0: 1}, [1, 10000], (1, False), [[1]], range(3)]
WRONG_RATES = wrong_numbers(1, 9999)
WRONG_DELAYS = wrong_numbers(0, 40)
WRONG_HELD = [thing for thing in wrong_numbers(0, 99999) if thing is not None]
WRONG_BOUNDS = NOTHINGS + [SHAPE, (1, 0), (1, 0, 0, 0), [1, 0, 0], (0, 0, 0), (10000, 0, 0), (1, -1, 0), (1, 100000, 0), (1, 0, -1),
                           (1, 0, 10000), (True, 0, 0), (1, False, 0), (1, 0, True), (None, 0, 0), (1, None, 0), (1, 0, None),
                           ("1", 0, 0), {1: 1, 0: 0, 2: 2}]


def last_of(sizes, delay, hold):
    last = delay + len(sizes) - 1
    return last if hold is None else max(last, len(sizes))


def obeys(sizes, rate, delay, hold, room, told):
    """Whether numbers are a sending, tick by tick."""
    if len(told) != last_of(sizes, delay, hold):
        return False
    sender, reader = (sum(sizes), 0) if hold is None else (0, 0)
    if delay == 0 and sizes[0] > 0:
        return False
    for tick, many in enumerate(told, 1):
        if hold is not None and tick <= len(sizes):
            sender += sizes[tick - 1]
        if not 0 <= many <= min(rate, sender):
            return False
        sender, reader = sender - many, reader + many
        if (room is not None and reader > room) or (hold is not None and sender > hold):
            return False
        if 0 <= tick - delay < len(sizes):
            reader -= sizes[tick - delay]
        if reader < 0:
            return False
    return sender == 0 and reader == 0


def all_sendings(sizes, rate, delay, hold, room):
    return [told for told in itertools.product(range(rate + 1), repeat=last_of(sizes, delay, hold))
            if obeys(sizes, rate, delay, hold, room, told)]


def plain_straits(sizes, rate, delay, hold, room):
    last = last_of(sizes, delay, hold)

    def taken(tick):
        return sum(size for k, size in enumerate(sizes) if delay + k <= tick)

    def came(tick):
        return sum(size for k, size in enumerate(sizes) if k + 1 <= tick)

    def must(tick):
        return max([taken(tick)] + ([came(tick) - hold] if hold is not None else []))

    def can(tick):
        if tick == 0:
            return 0
        return min([sum(sizes)] + ([taken(tick - 1) + room] if room is not None else []) + ([came(tick)] if hold is not None else []))
    return [(a, b) for a in range(last + 1) for b in range(a, last + 1) if must(b) - can(a) > rate * (b - a)]


def chance_held(rng, most):
    return rng.choice([None, None, rng.randint(0, most)])


def least_of(numbers, does):
    return next((number for number in numbers if does(number)), None)


class Sendings(unittest.TestCase):
    def test_example(self):
        self.assertIsNone(sending([4, 1, 1], 2, 1, None, None))
        self.assertEqual(strait([4, 1, 1], 2, 1, None, None), (0, 1))
        self.assertEqual(sending([4, 1, 1], 2, 2, None, None), [2, 2, 2, 0])
        self.assertEqual(least_room([4, 1, 1], 2, 2, None), 4)
        self.assertEqual((least_delay([4, 1, 1], 2, None, None), least_delay((5, 5), 5, 0, 5)), (2, 1))
        self.assertEqual((sending([5, 5], 5, 1, 0, 5), sending([5, 5], 5, 2, 0, 5)), ([5, 5], None))
        self.assertEqual(strait([5, 5], 5, 2, 0, 5), (2, 2))

    def test_by_all_lists(self):
        rng = random.Random(401)
        kinds = set()
        for _ in range(500):
            sizes = [rng.choice([0, 1, 2, rng.randint(0, 5)]) for _ in range(rng.randint(1, 3))]
            rate, delay = rng.randint(1, 3), rng.randint(0, 4)
            hold, room = chance_held(rng, 6), chance_held(rng, 6)
            args = [sizes, rate, delay, hold, room]
            found = all_sendings(*args)
            told = sending(*args)
            if not found:
                self.assertIsNone(told)
            else:
                self.assertIn(tuple(told), found)
                sums = [list(itertools.accumulate(each)) for each in found]
                self.assertEqual(list(itertools.accumulate(told)), [max(part) for part in zip(*sums)])
            straits = plain_straits(*args)
            self.assertEqual(strait(*args), straits[0] if straits else None)
            self.assertEqual(straits == [], found != [])
            kinds.add((hold is None, room is None, found == []))
            for each in itertools.product(range(-1, last_of(sizes, delay, hold) + 2), repeat=2):
                self.assertIs(is_strait(*args, each), each in straits)
            for each in rng.sample(found, min(3, len(found))):
                self.assertIs(is_sending(*args, list(each)), True)
                self.assertIs(is_sending(*args, each), True)
                self.assertIs(is_sending(*args, each + (0,)), False)
                self.assertIs(is_sending(*args, each[1:]), each == ())
                for at in range(len(each)):
                    for by in (-1, 1, 7):
                        other = each[:at] + (each[at] + by,) + each[at + 1:]
                        self.assertIs(is_sending(*args, other), obeys(*args[:5], other))
                        if at:
                            other = other[:at - 1] + (each[at - 1] - by,) + other[at:]
                            self.assertIs(is_sending(*args, other), obeys(*args[:5], other))
            for _ in range(5):
                each = tuple(rng.randint(0, rate) for _ in range(last_of(sizes, delay, hold)))
                self.assertIs(is_sending(*args, each), each in found)
        self.assertEqual(len(kinds), 8)

    def test_by_hand(self):
        self.assertEqual(sending([0], 1, 0, None, None), [])
        self.assertEqual(sending([0], 1, 0, 0, 0), [0])
        self.assertEqual(sending([0, 0], 1, 0, None, 0), [0])
        self.assertIsNone(sending([1], 1, 0, None, None))
        self.assertEqual(strait([1], 1, 0, None, None), (0, 0))
        self.assertEqual(sending([3], 9999, 3, 0, None), [3, 0, 0])
        self.assertEqual(sending([3, 0, 0], 1, 3, 2, None), [1, 1, 1, 0, 0])
        self.assertIsNone(sending([3, 0, 0], 1, 3, 1, None))
        # With a hold the line goes on until all frames came to the sender.
        self.assertEqual(sending([0, 0, 0], 1, 0, 0, None), [0, 0, 0])
        self.assertEqual(sending([1, 1], 1, 1, 0, 1), [1, 1])

    def test_any_value(self):
        args = [[4, 1, 1], 2, 2, None, None]
        for thing in NOTHINGS + [SHAPE, (2, 2), [2, 2, 2], [2, 2, 2, 0, 0], [2, 2, 2, None], [2, 2, 2, "0"], [2, 2, 1, True],
                                 [2, 2, 2, False], "2220", {0: 2, 1: 2, 2: 2, 3: 0}, [2, 2, 3, -1], [3, 1, 2, 0], [2, 2, 1, 0]]:
            self.assertIs(is_sending(*args, thing), False, thing)
        self.assertIs(is_sending(*args, [2, 2, 2, 0]), True)
        self.assertIs(is_sending(*args, (2, 2, 1, 1)), True)
        args = [[4, 1, 1], 2, 1, None, None]
        for thing in NOTHINGS + [SHAPE, [0, 1], (0,), (0, 1, 1), (False, True), (0, True), (False, 1), (0, None), ("0", 1), (1, 0),
                                 (-1, 1), (0, 4), (4, 4), {0: 1}, (0, -1)]:
            self.assertIs(is_strait(*args, thing), False, thing)
        self.assertIs(is_strait(*args, (0, 1)), True)

    def test_wrong_inputs(self):
        checks = [(0, WRONG_SIZES, BadSizes), (1, WRONG_RATES, BadRate), (2, WRONG_DELAYS, BadDelay), (3, WRONG_HELD, BadHold),
                  (4, WRONG_HELD, BadRoom)]
        for call, more in ((sending, []), (strait, []), (is_sending, [None]), (is_strait, [None])):
            refuses(self, call, [[0, 9999] * 6, 9999, 40, 99999, 99999] + more, checks)
            refuses(self, call, [[3], 1, 0, None, None] + more, checks)
        refuses(self, least_delay, [[3], 1, None, 0], [(0, WRONG_SIZES, BadSizes), (1, WRONG_RATES, BadRate),
                                                      (2, WRONG_HELD, BadHold), (3, WRONG_HELD, BadRoom)])
        refuses(self, least_hold, [[3], 1, 2, None], [(0, WRONG_SIZES, BadSizes), (1, WRONG_RATES, BadRate),
                                                     (2, WRONG_DELAYS, BadDelay), (3, WRONG_HELD, BadRoom)])
        refuses(self, least_room, [[3], 1, 2, None], [(0, WRONG_SIZES, BadSizes), (1, WRONG_RATES, BadRate),
                                                     (2, WRONG_DELAYS, BadDelay), (3, WRONG_HELD, BadHold)])
        refuses(self, least_line_rate, [[3], 2, None, 0], [(0, WRONG_SIZES, BadSizes), (1, WRONG_DELAYS, BadDelay),
                                                          (2, WRONG_HELD, BadHold), (3, WRONG_HELD, BadRoom)])
        refuses(self, corners, [[3], 9999], [(0, WRONG_SIZES, BadSizes), (1, WRONG_RATES, BadRate)])


class Least(unittest.TestCase):
    def test_by_trying_all(self):
        rng = random.Random(402)
        for _ in range(120):
            sizes = [rng.choice([0, 1, rng.randint(0, 20)]) for _ in range(rng.randint(1, 5))]
            rate, delay, most = rng.randint(1, 9), rng.randint(0, 8), sum(sizes) + 2
            hold, room = chance_held(rng, 20), chance_held(rng, 20)
            self.assertEqual(least_delay(sizes, rate, hold, room), least_of(
                range(41), lambda number: sending(sizes, rate, number, hold, room) is not None))
            self.assertEqual(least_hold(sizes, rate, delay, room), least_of(
                range(most), lambda number: sending(sizes, rate, delay, number, room) is not None))
            self.assertEqual(least_room(sizes, rate, delay, hold), least_of(
                range(most), lambda number: sending(sizes, rate, delay, hold, number) is not None))
            self.assertEqual(least_line_rate(sizes, delay, hold, room), least_of(
                range(1, most + 1), lambda number: sending(sizes, number, delay, hold, room) is not None))

    def test_at_the_limits(self):
        whole = [9999] * 12
        self.assertEqual(least_delay([9999], 9999, None, None), 1)
        self.assertEqual(least_delay([40], 1, None, None), 40)
        self.assertIsNone(least_delay([41], 1, None, None))
        self.assertEqual(least_line_rate([9999], 1, None, None), 9999)
        self.assertIsNone(least_line_rate([1], 0, None, None))
        self.assertEqual(least_line_rate([0], 0, None, None), 1)
        self.assertIsNone(least_line_rate(whole, 0, None, None))
        self.assertEqual(least_line_rate(whole, 1, None, None), 9999)
        self.assertEqual(least_room([9999], 9999, 1, None), 9999)
        # All but a little of the bits must lie there: one more room than can be would do.
        few = [9999] * 10 + [9, 0]
        self.assertEqual(sum(few), 99999)
        self.assertEqual((least_hold(few, 9999, 40, None), least_hold(whole, 9999, 40, None)), (0, 0))
        self.assertEqual(least_room(few[:10] + [9999], 9999, 40, 0), None)
        self.assertEqual(least_room(few, 9999, 40, 0), 99999)
        late = [9999] * 11
        self.assertEqual(least_hold(late, 3749, 40, None), 109989 - 3749 * 11)
        self.assertIsNone(least_hold(late, 900, 40, None))

    def test_more_delay_may_hurt(self):
        self.assertEqual([sending([5, 5], 5, delay, 0, 5) is None for delay in range(4)], [True, False, True, True])
        self.assertEqual(least_delay([5, 5], 5, 0, 5), 1)

    def test_corners(self):
        rng = random.Random(403)
        self.assertEqual(corners([4, 1, 1], 2), [(2, 4)])
        self.assertEqual(corners([0, 0], 3), [(0, 0)])
        self.assertEqual(corners((2, 0, 8), 3), [(2, 8)])
        for _ in range(60):
            sizes = [rng.choice([0, 1, rng.randint(0, 12)]) for _ in range(rng.randint(1, 5))]
            rate = rng.randint(1, 5)

            def does(delay, room):
                return delay >= 0 and room >= 0 and sending(sizes, rate, delay, None, room) is not None
            expected = [(delay, room) for delay in range(41) for room in range(sum(sizes) + 2)
                        if does(delay, room) and not does(delay - 1, room) and not does(delay, room - 1)]
            self.assertEqual(corners(sizes, rate), expected)
        self.assertEqual(corners([9999] * 12, 1), [])
        self.assertEqual(corners([41], 1), [])
        self.assertEqual(corners([40], 1), [(40, 40)])


def most_of(bounds, many):
    return min(many * bounds[0], bounds[1] + many * bounds[2])


def lists_within(bounds, many):
    """All sizes of so many frames within the bounds."""
    most, burst, pace = bounds
    return [sizes for sizes in itertools.product(range(most + 1), repeat=many)
            if all(sum(sizes[a:b]) <= burst + (b - a) * pace for a in range(many) for b in range(a + 1, many + 1))]


def fails(sizes, rate, delay):
    """Whether there is no sending, without a hold and a room."""
    return any(sum(sizes[:k + 1]) > rate * (delay + k) for k in range(len(sizes)))


def plain_delay(sizes, rate):
    return least_of(range(99), lambda delay: not fails(sizes, rate, delay))


def plain_room(sizes, rate):
    """The least room if the reader waits long enough."""
    return max(sum(sizes[a:b]) - rate * (b - a - 1) for a in range(len(sizes)) for b in range(a + 1, len(sizes) + 1))


class Bounds(unittest.TestCase):
    def test_are_within(self):
        rng = random.Random(411)
        for _ in range(300):
            bounds = (rng.randint(1, 4), rng.randint(0, 5), rng.randint(0, 3))
            sizes = [rng.randint(0, 4) for _ in range(rng.randint(1, 5))]
            self.assertIs(are_within(bounds, sizes), tuple(sizes) in lists_within(bounds, len(sizes)))
            self.assertIs(are_within(bounds, tuple(sizes)), are_within(bounds, sizes))
        self.assertIs(are_within((3, 1, 1), [0, 0, 3]), False)
        self.assertIs(are_within((3, 1, 1), [0, 0, 2]), True)
        self.assertIs(are_within((3, 0, 3), [3, 3, 3]), True)
        self.assertIs(are_within((4, 0, 1), [2]), False)
        self.assertIs(are_within((4, 2, 2), [3, 3, 3]), False)
        self.assertIs(are_within((9999, 99999, 9999), [9999] * 12), True)
        self.assertIs(are_within((9999, 99999, 1), [9999] * 10 + [9, 12]), True)
        self.assertIs(are_within((9999, 99999, 1), [9999] * 10 + [9, 13]), False)
        self.assertIs(are_within((9999, 99999, 0), [9999] * 10 + [9, 0]), True)

    def test_by_all_sizes(self):
        rng = random.Random(413)
        for most, burst, pace, rate in itertools.product(range(1, 4), range(5), range(4), range(1, 4)):
            bounds = (most, burst, pace)
            lists = {many: lists_within(bounds, many) for many in range(1, 6)}
            self.assertEqual(all(max(each) <= most for many in lists for each in lists[many]), True)
            delays = [plain_delay(each, rate) for many in lists for each in lists[many]]
            rooms = [plain_room(each, rate) for many in lists for each in lists[many]]
            for each in rng.sample(lists[rng.randint(1, 5)], 1):
                self.assertEqual(least_delay(each, rate, None, None), plain_delay(each, rate))
                self.assertEqual(least_room(each, rate, 40, None), plain_room(each, rate))
            found, room = all_delay(bounds, rate), all_room(bounds, rate)
            self.assertEqual(found is None, most > rate and pace > rate)
            self.assertEqual(room is None, most > rate and pace > rate)
            if found is not None:
                # Five frames are enough for the worst here, or else there are worse sizes with more frames.
                self.assertLessEqual(max(delays), found)
                self.assertLessEqual(max(rooms), room)
                if burst <= 4 * max(most - pace, 1):
                    self.assertEqual((max(delays), max(rooms)), (found, room))
            for delay in range(8):
                told = worst_sizes(bounds, rate, delay)
                self.assertEqual(told is None, found is not None and delay >= found)
                failing = [each for many in lists for each in lists[many] if fails(each, rate, delay)]
                if told is None:
                    self.assertEqual(failing, [])
                elif len(told) <= 5:
                    fewest = min(len(each) for each in failing)
                    self.assertEqual(tuple(told), max(each for each in failing if len(each) == fewest))
                    self.assertIsNone(sending(told, rate, delay, None, None))
                else:
                    self.assertEqual(failing, [])
                if told is not None:
                    self.assertEqual(told, [most_of(bounds, k + 1) - most_of(bounds, k) for k in range(len(told))])
                    self.assertIs(fails(told, rate, delay), True)
                    self.assertIs(fails(told[:-1], rate, delay), False)

    def test_by_the_document_with_large_numbers(self):
        rng = random.Random(412)
        for _ in range(200):
            top = rng.choice([5, 50, 9999])
            bounds = (rng.randint(1, top), rng.choice([0, rng.randint(0, top), rng.randint(0, 99999)]), rng.randint(0, top))
            rate = rng.randint(1, top)
            if bounds[0] > rate and bounds[2] > rate:
                self.assertEqual((all_delay(bounds, rate), all_room(bounds, rate)), (None, None))
                continue
            # From where the burst is used up the bits do not grow faster than the line brings them.
            many = bounds[1] // max(1, bounds[0] - bounds[2]) + 3
            if many > 5000:
                continue
            self.assertEqual(all_delay(bounds, rate), max(
                -(-most_of(bounds, k) // rate) - k + 1 for k in range(1, many)))
            self.assertEqual(all_room(bounds, rate), max(most_of(bounds, k) - rate * (k - 1) for k in range(1, many)))

    def test_at_the_limits(self):
        self.assertEqual(all_delay((2, 99999, 1), 1), 100000)
        self.assertEqual(all_room((9999, 99999, 9998), 9998), 109997)
        self.assertIsNone(all_delay((2, 0, 2), 1))
        self.assertIsNone(all_room((2, 0, 2), 1))
        self.assertEqual((all_delay((1, 0, 0), 9999), all_room((1, 0, 0), 9999)), (0, 0))
        # Each frame makes one bit more than the line brings.
        self.assertEqual(worst_sizes((2, 0, 2), 1, 998), [2] * 998)
        self.assertEqual(worst_sizes((2, 99999, 2), 1, 1000), [2] * 1000)
        raises(self, TooMany, worst_sizes, [(2, 0, 2), 1, 1001], most=1000)
        raises(self, TooMany, worst_sizes, [(2, 99999, 1), 1, 9999], most=1000)
        self.assertIsNone(worst_sizes((2, 9998, 1), 1, 9999))
        raises(self, TooMany, worst_sizes, [(2, 9999, 1), 1, 9999], most=1000)
        self.assertIsNone(worst_sizes((9999, 99999, 9999), 9999, 1))
        self.assertEqual(worst_sizes((9999, 99999, 9999), 9999, 0), [9999])

    def test_wrong_inputs(self):
        refuses(self, are_within, [(9999, 99999, 9999), [0, 9999]], [(0, WRONG_BOUNDS, BadBounds), (1, WRONG_SIZES, BadSizes)])
        for call in (all_delay, all_room):
            refuses(self, call, [(1, 0, 0), 9999], [(0, WRONG_BOUNDS, BadBounds), (1, WRONG_RATES, BadRate)])
        refuses(self, worst_sizes, [(1, 0, 0), 9999, 9999], [(0, WRONG_BOUNDS, BadBounds), (1, WRONG_RATES, BadRate),
                                                            (2, wrong_numbers(0, 9999), BadDelay)])


def due_last(jobs):
    return max(start + delay + len(sizes) - 1 for sizes, start, delay in jobs)


def shares(jobs, rate):
    """Whether there is a share, tick by tick, by all that can have been brought."""
    states = {tuple(0 for _ in jobs)}
    for tick in range(due_last(jobs) + 1):
        if tick:
            reached = set()
            for state in states:
                spans = [range(0, min(rate, sum(sizes) - many) + 1 if tick > start else 1)
                         for many, (sizes, start, _) in zip(state, jobs)]
                reached |= {tuple(a + b for a, b in zip(state, part)) for part in itertools.product(*spans) if sum(part) <= rate}
            states = reached
        states = {state for state in states if all(
            many >= sum(size for k, size in enumerate(sizes) if start + delay + k <= tick)
            for many, (sizes, start, delay) in zip(state, jobs))}
    return tuple(sum(sizes) for sizes, _, _ in jobs) in states


def serves(jobs, rate, thing):
    """Whether tuples are a share."""
    if len(thing) != due_last(jobs) or any(sum(part) > rate or min(part) < 0 for part in thing):
        return False
    for at, (sizes, start, delay) in enumerate(jobs):
        brought = [part[at] for part in thing]
        if any(brought[:start]) or sum(brought) != sum(sizes):
            return False
        if any(sum(brought[:start + delay + k]) < sum(sizes[:k + 1]) for k in range(len(sizes))):
            return False
    return True


def crushes(jobs, rate):
    last = due_last(jobs)
    return [(a, b) for a in range(last + 1) for b in range(a, last + 1) if sum(
        size for sizes, start, delay in jobs for k, size in enumerate(sizes) if start >= a and start + delay + k <= b) > rate * (b - a)]


def chance_jobs(rng, many):
    return [([rng.choice([0, 1, 2, 3]) for _ in range(rng.randint(1, 2))], rng.randint(0, 2), rng.randint(0, 2)) for _ in range(many)]


def wrong_jobs():
    """Values that are no jobs, with what BadJobs tells."""
    good = ([1], 0, 1)
    found = [(thing, None) for thing in (None, True, 0, "x", {}, (), [], SHAPE, [good] * 6, {0: good})]
    parts = [None, True, 0, "x", (), [], {}, list(good), good[:2], good + (1,), ([], 0, 1), ([1] * 7, 0, 1), ([10000], 0, 1),
             ([-1], 0, 1), ([True], 0, 1), ([None], 0, 1), (None, 0, 1), (1, 0, 1), ("1", 0, 1), ({0: 1}, 0, 1), ([1], -1, 1),
             ([1], 21, 1), ([1], True, 1), ([1], None, 1), ([1], 0, -1), ([1], 0, 21), ([1], 0, True), ([1], 0, None), ([1], "0", 1)]
    return found + [([part, None], 0) for part in parts] + [([good, part, good], 1) for part in parts]


class Jobs(unittest.TestCase):
    def test_by_all_shares(self):
        rng = random.Random(421)
        outcomes = set()
        for _ in range(250):
            jobs, rate = chance_jobs(rng, rng.randint(1, 3)), rng.randint(1, 4)
            told, found = share(jobs, rate), crushes(jobs, rate)
            outcomes.add(told is None)
            self.assertEqual(told is not None, shares(jobs, rate))
            self.assertEqual(told is None, found != [])
            self.assertEqual(crush(jobs, rate), found[0] if found else None)
            for pair in itertools.product(range(-1, due_last(jobs) + 2), repeat=2):
                self.assertIs(is_crush(jobs, rate, pair), pair in found)
            if told is not None:
                self.assertIsInstance(told, list)
                self.assertTrue(all(isinstance(part, tuple) for part in told))
                self.assertIs(serves(jobs, rate, told), True)
                self.assertIs(is_share(jobs, rate, told), True)
                self.assertIs(is_share(tuple(jobs), rate, tuple(told)), True)
                self.assertIs(is_share(jobs, rate, told + [tuple(0 for _ in jobs)]), False)
            for _ in range(20):
                thing = [tuple(rng.choice([0, 0, 1, 2, 3]) for _ in jobs) for _ in range(due_last(jobs))]
                if told and rng.random() < 0.8:
                    thing = [list(part) for part in told]
                    at, one, two = rng.randrange(len(jobs)), rng.randrange(len(told)), rng.randrange(len(told))
                    thing[one][at] -= 1
                    thing[two][at] += 1
                    thing = [tuple(part) for part in thing]
                self.assertIs(is_share(jobs, rate, thing), serves(jobs, rate, thing))
            self.assertEqual(least_shared_rate(jobs), least_of(range(1, 30), lambda number: shares(jobs, number)))
        self.assertEqual(outcomes, {True, False})

    def test_by_hand(self):
        self.assertEqual(share([([0], 0, 0)], 1), [])
        self.assertIsNone(share([([1], 0, 0)], 9999))
        self.assertEqual(crush([([1], 0, 0)], 9999), (0, 0))
        self.assertIsNone(least_shared_rate([([1], 20, 0)]))
        self.assertEqual(crush([([1], 20, 0)], 5), (20, 20))
        jobs = [([4, 4], 0, 4), ([3], 2, 1)]
        self.assertEqual(share(jobs, 3), [(3, 0), (3, 0), (0, 3), (2, 0), (0, 0)])
        self.assertEqual(least_shared_rate(jobs), 3)
        self.assertEqual(crush(jobs, 2), (0, 5))
        self.assertEqual(least_shared_rate([([9999], 0, 1)]), 9999)
        self.assertIsNone(least_shared_rate([([9999], 0, 1), ([1], 0, 1)]))
        large = [([9999] * 6, start, 20) for start in (0, 5, 10, 15, 20)]
        self.assertIs(is_share(large, least_shared_rate(large), share(large, least_shared_rate(large))), True)
        self.assertIsNone(share(large, least_shared_rate(large) - 1))

    def test_any_value(self):
        jobs = [([2], 0, 1), ([1, 1], 1, 1)]
        self.assertIs(is_share(jobs, 2, [(2, 0), (0, 1), (0, 1)]), True)
        for thing in NOTHINGS + [SHAPE, [(2, 0), (0, 1)], [[2, 0], [0, 1], [0, 1]], [(2, 0), (0, 1), None], [(2, 0), (0, 1), (0, True)],
                                 [(2, 0), (0, 1), (False, 1)], [(2, 0), (0, 1), (0,)], [(2, 0), (0, 1), (0, 1, 0)], "220",
                                 [(2, 0), (0, 2), (0, "0")], [(2, 0), (0, 3), (0, -1)], {0: (2, 0), 1: (0, 1), 2: (0, 1)},
                                 [(2, 0), (0, 1), (0, None)], [(2, 0), (0, 1), (0, 1), (0, 0)], [(2, 0), (0, 1), (0, 0)],
                                 [(1, 0), (1, 1), (0, 1)], [(1, 1), (1, 1), (0, 0)], [(2, 1), (0, 1), (0, 0)]]:
            self.assertIs(is_share(jobs, 2, thing), False, thing)
        jobs = [([4], 0, 1)]
        self.assertIs(is_crush(jobs, 2, (0, 1)), True)
        for thing in NOTHINGS + [SHAPE, [0, 1], (0,), (0, 1, 1), (False, 1), (0, True), (0, None), ("0", 1), (1, 0), (-1, 1), (0, 2),
                                 (0, 0), (1, 1)]:
            self.assertIs(is_crush(jobs, 2, thing), False, thing)

        jobs = [([9], 0, 1)]
        for pair in ((-1, 1), (0, 2), (-1, 0), (1, 1)):
            self.assertIs(is_crush(jobs, 2, pair), False)

    def test_wrong_inputs(self):
        good = [([0, 9999] * 3, 20, 20)] * 5
        for call, more in ((share, [9999]), (is_share, [1, None]), (crush, [9999]), (is_crush, [1, None]), (least_shared_rate, [])):
            call(good, *more)
            call([(tuple(sizes), start, delay) for sizes, start, delay in good], *more)
            for jobs, at in wrong_jobs():
                raises(self, BadJobs, call, [jobs] + more, at=at)
                raises(self, BadJobs, call, [jobs] + [None] * len(more), at=at)
            if more:
                refuses(self, call, [good] + more, [(1, WRONG_RATES, BadRate)])


if __name__ == "__main__":
    unittest.main()
