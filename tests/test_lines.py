import functools
import itertools
import random
import unittest

from helpers import NOTHINGS, SHAPE, flat, plane_of, raises, refuses, wrong_numbers
from pricedreels.errors import (BadItem, BadLosses, BadLot, BadNumber, BadRate, BadReel, BadWait, NothingDone, NotNow,
                                TooMany)
from pricedreels.grids import Shape
from pricedreels.heads import Head
from pricedreels.lines import Line, best_guess, greatest_pictures, least_pictures, rights, wait_for
from pricedreels.reels import Reel, item_sizes, reel_bits, shown_planes
from told import chance_head, chance_reel, chance_shape, chance_telling, plain_play

PAIR = Shape(2, 2, 0, 9)
ROOT = (0, 0, 8)
ALONE = Head(0, 0, 0, 0, (1, 0, 0, 0, 0, 0, 0, 0))
STILL_HEAD = Head(1, 0, 0, 0, (1, 0, 0, 0, 0, 0, 0, 1))
FLAT = ((ROOT, ("flat", "none", ())),)
STILL = ((ROOT, ("still",)),)
EXAMPLE = Reel(PAIR, [(0, (), ALONE, FLAT), (1, (0,), STILL_HEAD, STILL)])
WRONG_REELS = NOTHINGS + [SHAPE, (PAIR, ()), reel_bits(EXAMPLE)]
NO_REEL = (0, WRONG_REELS, BadReel, {"part": None})
WRONG_LOTS = [thing for thing in NOTHINGS if thing not in ((), (1,))] + [
    PAIR, [0], [0, 1], (1, 0), (0, 0), (2,), (-1,), (0, 2), (True,), (0, True), (None,), ("0",), "01", {0: 1}]


def small_reel(rng, many, shape=None):
    shape = shape or chance_shape(rng, 3)
    return chance_reel(rng, shape, many, kinds=rng.choice([(0, 1, 2), (1, 1, 2), (0,)]))


def pictures(reel, planes_of_lost):
    """The pictures of all items, those of the lost ones being as told."""
    found = []
    for number, (_, leans, head, telling) in enumerate(reel.entries):
        if number in planes_of_lost:
            found.append(planes_of_lost[number])
        else:
            found.append(plain_play(head, reel.shape, telling, [found[lean] for lean in leans])[0])
    return found


def plain_rights(reel, lot):
    low, high = [pictures(reel, {number: flat(reel.shape, end) for number in range(len(reel)) if number not in lot})
                 for end in (reel.shape.low, reel.shape.high)]
    return tuple(sorted(item[0] for number, item in enumerate(reel.entries) if low[number] == high[number]))


def all_planes(shape):
    rows = list(itertools.product(range(shape.low, shape.high + 1), repeat=shape.width))
    return list(itertools.product(rows, repeat=shape.height))


class Lots(unittest.TestCase):
    def test_by_all_planes(self):
        rng = random.Random(801)
        for trial in range(60):
            shape = [Shape(1, 2, 0, 2), Shape(1, 1, -3, 4), Shape(2, 2, 0, 1), Shape(1, 2, 6, 6)][trial % 4]
            many = rng.randint(1, 4)
            reel = small_reel(rng, many, shape)
            lot = tuple(sorted(rng.sample(range(many), rng.randint(max(0, many - 2), many))))
            lost = [number for number in range(many) if number not in lot]
            seen = [pictures(reel, dict(zip(lost, planes))) for planes in itertools.product(all_planes(shape), repeat=len(lost))]
            for number in range(many):
                spans = [[(min(part), max(part)) for part in zip(*lines)] for lines in zip(*[each[number] for each in seen])]
                self.assertEqual(least_pictures(reel, lot)[number], tuple(tuple(low for low, _ in row) for row in spans))
                self.assertEqual(greatest_pictures(reel, lot)[number], tuple(tuple(high for _, high in row) for row in spans))
                plane, error = best_guess(reel, lot, number)
                self.assertEqual(plane, tuple(tuple((low + high) // 2 for low, high in row) for row in spans))
                self.assertEqual(error, max(high - (low + high) // 2 for row in spans for low, high in row))
                # No plane is nearer to all of the pictures.
                for other in rng.choices(all_planes(shape), k=3):
                    self.assertGreaterEqual(max(abs(a - b) for each in seen for lines in zip(other, each[number])
                                                for a, b in zip(*lines)), error)
            self.assertEqual(rights(reel, lot), tuple(sorted(
                item[0] for number, item in enumerate(reel.entries) if len({each[number] for each in seen}) == 1)))

    def test_by_the_document(self):
        rng = random.Random(802)
        for _ in range(30):
            reel = small_reel(rng, rng.randint(1, 7))
            many = len(reel)
            lot = tuple(sorted(rng.sample(range(many), rng.randint(0, many))))
            lost = [number for number in range(many) if number not in lot]
            low, high = least_pictures(reel, lot), greatest_pictures(reel, lot)
            self.assertEqual(low, pictures(reel, {number: flat(reel.shape, reel.shape.low) for number in lost}))
            self.assertEqual(high, pictures(reel, {number: flat(reel.shape, reel.shape.high) for number in lost}))
            self.assertEqual(rights(reel, lot), plain_rights(reel, lot))
            told = pictures(reel, {number: plane_of(reel.shape, rng) for number in lost})
            for number in range(many):
                for a, b, c in zip(low[number], told[number], high[number]):
                    self.assertTrue(all(x <= y <= z for x, y, z in zip(a, b, c)))
            for number in lost:
                self.assertLessEqual(set(rights(reel, lot)), set(rights(reel, tuple(sorted(lot + (number,))))))
            self.assertEqual(rights(reel, tuple(range(many))), tuple(range(many)))

    def test_by_hand(self):
        self.assertEqual([rights(EXAMPLE, lot) for lot in ((), (0,), (1,), (0, 1))], [(), (0,), (), (0, 1)])
        self.assertEqual(best_guess(EXAMPLE, (0,), 1), (((4, 4), (4, 4)), 5))
        self.assertEqual(best_guess(EXAMPLE, (0,), 0), (((4, 4), (4, 4)), 0))
        self.assertEqual((least_pictures(EXAMPLE, ()), greatest_pictures(EXAMPLE, (1,))), ([flat(PAIR, 0)] * 2, [flat(PAIR, 9)] * 2))
        # Where a part is known, the rest can be as wrong as ever.
        head = Head(1, 0, 0, 0, (1, 0, 0, 0, 0, 1, 0, 0))
        told = (((0, 0, 2), ("flat", "none", ())), ((0, 2, 2), ("copy", 0, (0, 0), "none", ())))
        for blocks in (told, (((0, 0, 2), told[1][1]), ((0, 2, 2), told[0][1]))):
            half = Reel(Shape(1, 4, 0, 9), [(0, (), ALONE, FLAT), (1, (0,), head, blocks)])
            self.assertEqual(best_guess(half, (1,), 1), (((4,) * 4,), 5))
        # It is known, though what it leans on is not there, if its levels are great enough.
        bright = Reel(PAIR, [(1, (), ALONE, FLAT), (0, (0,), STILL_HEAD, ((ROOT, ("flat", "plain", (9,) * 4)),))])
        self.assertEqual(rights(bright, (1,)), (0,))
        self.assertEqual(rights(Reel(Shape(1, 1, 3, 3), [(0, (), ALONE, FLAT)]), ()), (0,))

    def test_wrong_inputs(self):
        for call in (least_pictures, greatest_pictures, rights):
            refuses(self, call, [EXAMPLE, (0, 1)], [NO_REEL, (1, WRONG_LOTS, BadLot)])
        refuses(self, best_guess, [EXAMPLE, (0,), 1], [NO_REEL, (1, WRONG_LOTS, BadLot), (2, wrong_numbers(0, 1), BadItem, {"at": None})])


class Model:
    """What a line tells, kept plainly by replaying the deeds."""

    def __init__(self, reel, rate, wait):
        self.reel, self.rate, self.wait, self.deeds = reel, rate, wait, []

    def told(self):
        works = [-(-size // self.rate) for size in item_sizes(self.reel)]
        moment, there, busy, right = 0, (), None, ()
        for deed in self.deeds:
            if deed[0] == "send":
                busy = (deed[1], 0)
                continue
            if deed[0] == "lose":
                busy = None
            elif busy:
                busy = (busy[0], busy[1] + 1)
                if busy[1] == works[busy[0]]:
                    there, busy = tuple(sorted(there + (busy[0],))), None
            place = moment - self.wait
            if place in plain_rights(self.reel, there):
                right += (place,)
            moment += 1
        return moment, there, busy, works, list(self.deeds), right

    def wrong(self, deed):
        """The error of a deed, None if it can be done."""
        moment, there, busy, _, _, _ = self.told()
        if moment == self.wait + len(self.reel):
            return "end"
        if deed[0] == "send":
            return "busy" if busy else "there" if deed[1] in there else None
        return "free" if deed[0] == "lose" and busy is None else None


def do(line, deed):
    if deed[0] == "send":
        return line.send(deed[1])
    return line.tick() if deed[0] == "tick" else line.lose()


def told_by(line):
    return line.moment(), line.there(), line.busy(), line.works(), line.log(), line.right()


class Deeds(unittest.TestCase):
    def test_at_random(self):
        rng = random.Random(811)
        words = set()
        for _ in range(60):
            reel = small_reel(rng, rng.randint(1, 5))
            rate = rng.choice([15, 30, 60, 20000])
            wait = rng.randint(0, 5)
            line, model = Line(reel, rate, wait), Model(reel, rate, wait)
            for _ in range(40):
                if rng.random() < 0.12:
                    if model.deeds:
                        model.deeds.pop()
                        self.assertIsNone(line.undo())
                    else:
                        raises(self, NothingDone, line.undo, [])
                else:
                    deed = rng.choice([("tick",), ("tick",), ("lose",), ("send", rng.randrange(len(reel))), ("send", rng.randrange(len(reel)))])
                    word = model.wrong(deed)
                    words.add(word)
                    if word is None:
                        self.assertIsNone(do(line, deed))
                        model.deeds.append(deed)
                    else:
                        raises(self, NotNow, do, [line, deed], word=word)
                self.assertEqual(told_by(line), model.told())
                self.assertEqual(len(line), len(model.deeds))
        self.assertEqual(words, {None, "end", "busy", "there", "free"})

    def test_order_of_errors(self):
        line = Line(EXAMPLE, 39, 0)
        for number in wrong_numbers(0, 1):
            raises(self, BadItem, line.send, [number], at=None)
        raises(self, NotNow, line.lose, [], word="free")
        line.send(0)
        for number in (0, 1):
            raises(self, NotNow, line.send, [number], word="busy")
        raises(self, BadItem, line.send, [2], at=None)
        line.tick()
        raises(self, NotNow, line.send, [0], word="there")
        line.send(1)
        line.lose()
        self.assertEqual((line.right(), line.there(), line.busy(), line.moment()), ((0,), (0,), None, 2))
        for number in (None, 0, 1, 5):
            raises(self, NotNow, line.send, [number], word="end")
        raises(self, NotNow, line.tick, [], word="end")
        raises(self, NotNow, line.lose, [], word="end")
        line.undo()
        self.assertEqual((line.busy(), line.moment(), line.log()), ((1, 0), 1, [("send", 0), ("tick",), ("send", 1)]))
        line.tick()
        self.assertEqual((line.right(), line.there()), ((0, 1), (0, 1)))
        for _ in range(4):
            line.undo()
        raises(self, NothingDone, line.undo, [])
        self.assertEqual(told_by(line), told_by(Line(EXAMPLE, 39, 0)))

    def test_busy_at_the_end(self):
        line = Line(EXAMPLE, 39, 0)
        line.tick()
        line.tick()
        self.assertEqual((line.moment(), line.right()), (2, ()))
        slow = Line(EXAMPLE, 1, 0)
        slow.send(0)
        slow.tick()
        slow.tick()
        self.assertEqual((slow.busy(), slow.hope(3)), ((0, 2), 0))
        raises(self, NotNow, slow.advice, [0], word="end")
        raises(self, NotNow, slow.send, [1], word="end")

    def test_works(self):
        self.assertEqual(item_sizes(EXAMPLE), [39, 38])
        for rate, works in ((1, [39, 38]), (19, [3, 2]), (20, [2, 2]), (38, [2, 1]), (39, [1, 1]), (20000, [1, 1])):
            self.assertEqual(Line(EXAMPLE, rate, 0).works(), works)

    def test_equal_lines_and_copies(self):
        one = Line(EXAMPLE, 20, 2)
        one.send(0)
        other = one.copy()
        self.assertTrue(one == other)
        self.assertEqual(told_by(one), told_by(other))
        other.tick()
        self.assertFalse(one == other)
        self.assertEqual((len(one), len(other), one.moment(), other.moment()), (1, 2, 0, 1))
        one.lose()
        self.assertFalse(one == other)
        one.undo()
        one.tick()
        self.assertTrue(one == other)
        one.undo()
        one.undo()
        self.assertEqual((len(one), other.log()), (0, [("send", 0), ("tick",)]))
        self.assertTrue(one == Line(Reel(PAIR, list(EXAMPLE.entries)), 20, 2))
        for line in (Line(EXAMPLE, 21, 2), Line(EXAMPLE, 20, 3), Line(Reel(PAIR, EXAMPLE.entries[:1]), 20, 2)):
            self.assertFalse(one == line)
        for thing in NOTHINGS + [SHAPE, EXAMPLE, [], (EXAMPLE, 20, 2)]:
            self.assertFalse(one == thing)
        told = one.works()
        told.clear()
        self.assertEqual(one.works(), [2, 2])
        log = other.log()
        log.clear()
        self.assertEqual(len(other.log()), 2)

    def test_wrong_inputs(self):
        six = Reel(PAIR, [(at, (), ALONE, FLAT) for at in range(6)])
        refuses(self, Line, [EXAMPLE, 20000, 20], [NO_REEL, (1, wrong_numbers(1, 20000), BadRate), (2, wrong_numbers(0, 20), BadWait)])
        raises(self, TooMany, Line, [six, None, None], most=5)
        Line(Reel(PAIR, [(at, (), ALONE, FLAT) for at in range(5)]), 1, 0)
        refuses(self, wait_for, [EXAMPLE, 20000, 3], [NO_REEL, (1, wrong_numbers(1, 20000), BadRate), (2, wrong_numbers(0, 3), BadLosses)])
        raises(self, TooMany, wait_for, [six, None, None], most=5)
        line = Line(EXAMPLE, 20, 2)
        for call, more in ((line.hope, []), (line.advice, []), (line.strategy, []), (line.account, []), (line.is_strategy, [0, {}]),
                           (line.is_account, [0, {}])):
            call(3, *more)
            for losses in wrong_numbers(0, 3):
                raises(self, BadLosses, call, [losses] + more)
                if more:
                    raises(self, BadLosses, call, [losses, None, None])
            if more:
                for number in NOTHINGS + [SHAPE, "0", 0.5]:
                    raises(self, BadNumber, call, [0, number, {}])
                call(0, -10 ** 12 + 1, {})


def plain_hope(reel, rate, wait, losses, there=(), moment=0, carried=None):
    """What can surely be hoped for, tick by tick; carried is a pair of an item and for how many ticks it is carried."""
    works = [-(-size // rate) for size in item_sizes(reel)]
    end = wait + len(reel)
    known = {lot: plain_rights(reel, lot) for many in range(len(reel) + 1) for lot in itertools.combinations(range(len(reel)), many)}

    @functools.lru_cache(None)
    def value(lot, now, item, left, may_lose):
        if now == end:
            return 0
        if item is None:
            found = [(now - wait in known[lot]) + value(lot, now + 1, None, 0, may_lose)]
            return max(found + [value(lot, now, other, works[other], may_lose) for other in range(len(reel)) if other not in lot])
        after = tuple(sorted(lot + (item,))) if left == 1 else lot
        found = [(now - wait in known[after]) + value(after, now + 1, None if left == 1 else item, left - 1, may_lose)]
        if may_lose:
            found.append((now - wait in known[lot]) + value(lot, now + 1, None, 0, may_lose - 1))
        return min(found)
    if carried is None:
        return value(there, moment, None, 0, losses)
    return value(there, moment, carried[0], works[carried[0]] - carried[1], losses)


def some_line(rng, most=4):
    """A line to which something happened."""
    reel = small_reel(rng, rng.randint(1, most))
    largest = max(item_sizes(reel))
    line = Line(reel, rng.choice([largest, largest // 2 + 1, largest // 3 + 1, largest // 6 + 1]), rng.randint(0, 6))
    for _ in range(rng.randint(0, 5)):
        deed = rng.choice([("tick",), ("lose",)] + [("send", number) for number in range(len(reel))])
        try:
            do(line, deed)
        except NotNow:
            pass
    return line


class Games(unittest.TestCase):
    def test_example(self):
        line = Line(EXAMPLE, 20, 2)
        self.assertEqual((line.works(), line.hope(0), line.hope(1), line.advice(0)), ([2, 2], 2, 0, [0]))
        self.assertEqual((wait_for(EXAMPLE, 20, 0), wait_for(EXAMPLE, 20, 1)), (2, 4))
        self.assertEqual(line.advice(1), [0, 1, None])

    def test_hope_and_advice(self):
        rng = random.Random(821)
        for _ in range(120):
            line = some_line(rng)
            reel, rate, wait = line.reel, line.rate, line.wait
            for losses in range(4):
                expected = plain_hope(reel, rate, wait, losses, line.there(), line.moment(), line.busy())
                self.assertEqual(line.hope(losses), expected)
                if line.moment() == wait + len(reel):
                    raises(self, NotNow, line.advice, [losses], word="end")
                    raises(self, NotNow, line.advice, [None], word="end")
                elif line.busy():
                    raises(self, NotNow, line.advice, [losses], word="busy")
                    raises(self, NotNow, line.advice, [9], word="busy")
                else:
                    self.assertEqual(line.advice(losses), self.best(line, losses, expected))

    def best(self, line, losses, expected):
        """The choices with which the hope is reached."""
        found = []
        for choice in [number for number in range(len(line.reel)) if number not in line.there()] + [None]:
            if choice is None:
                after = line.copy()
                after.tick()
                gain = len(after.right()) - len(line.right())
                reached = gain + plain_hope(line.reel, line.rate, line.wait, losses, after.there(), after.moment())
            else:
                reached = plain_hope(line.reel, line.rate, line.wait, losses, line.there(), line.moment(), (choice, 0))
            if reached == expected:
                found.append(choice)
        return found

    def test_by_advice_hope_never_falls(self):
        rng = random.Random(822)
        for _ in range(60):
            reel = small_reel(rng, rng.randint(1, 5))
            largest = max(item_sizes(reel))
            line, losses = Line(reel, rng.choice([largest, largest // 2 + 1, largest // 3 + 1]), rng.randint(0, 8)), rng.randint(0, 3)
            known = len(line.right()) + line.hope(losses)
            while line.moment() < line.wait + len(reel):
                if line.busy() is None:
                    choice = rng.choice(line.advice(losses))
                    if choice is None:
                        line.tick()
                    else:
                        line.send(choice)
                elif losses and rng.random() < 0.3:
                    line.lose()
                    losses -= 1
                else:
                    line.tick()
                self.assertGreaterEqual(len(line.right()) + line.hope(losses), known)
                known = len(line.right()) + line.hope(losses)
            self.assertEqual(line.hope(losses), 0)

    def test_strategies_and_accounts(self):
        rng = random.Random(823)
        for _ in range(40):
            line, losses = some_line(rng, 3), rng.randint(0, 2)
            hope, plan, paper = line.hope(losses), line.strategy(losses), line.account(losses)
            self.assertEqual((list(plan), list(paper)), (sorted(plan), sorted(paper)))
            for number in (-5, hope - 1, hope, hope + 1, 99):
                self.assertIs(line.is_strategy(losses, number, plan), number <= hope)
                self.assertIs(line.is_account(losses, number, paper), number >= hope)
            for _ in range(12):
                if plan:
                    position = rng.choice(list(plan))
                    worse = dict(plan)
                    choices = [number for number in range(len(line.reel)) if number not in position[0]] + [None]
                    worse[position] = rng.choice([(plan[position][0] + rng.randint(-1, 1), plan[position][1]),
                                                  (plan[position][0], rng.choice(choices))])
                    if rng.random() < 0.2:
                        del worse[position]
                    self.assertIs(line.is_strategy(losses, hope, worse), plain_strategy(line, losses, hope, worse))
                    other = dict(paper)
                    other[position] = paper[position] + rng.randint(-1, 1)
                    if rng.random() < 0.3:
                        del other[position]
                    self.assertIs(line.is_account(losses, hope, other), plain_account(line, losses, hope, other))
                    self.assertIs(line.is_account(losses, hope - 1, other), plain_account(line, losses, hope - 1, other))

    def test_by_hand(self):
        # One item of one tick, shown in the first one: there is just one position.
        reel = Reel(PAIR, [(0, (), ALONE, FLAT)])
        line, position = Line(reel, 39, 0), ((), 0, 0)
        self.assertEqual((line.hope(0), line.hope(1), line.advice(0), line.advice(1)), (1, 0, [0], [0, None]))
        self.assertEqual((line.strategy(0), line.account(0)), ({position: (1, 0)}, {position: 1}))
        self.assertIs(line.is_strategy(0, 1, {position: (1, None)}), False)
        self.assertIs(line.is_strategy(0, 0, {position: (0, None)}), True)
        self.assertIs(line.is_strategy(0, 0, {position: (-3, 0)}), False)
        self.assertIs(line.is_strategy(0, -3, {position: (-3, 0)}), True)
        self.assertIs(line.is_strategy(0, 0, {}), False)
        self.assertIs(line.is_account(0, 1, {position: 1}), True)
        self.assertIs(line.is_account(0, 0, {position: 1}), False)
        self.assertIs(line.is_account(0, 1, {position: 0}), False)
        self.assertIs(line.is_account(0, 9, {}), False)
        line.send(0)
        self.assertEqual((line.strategy(0), line.account(0), line.hope(0), line.hope(1)), ({}, {}, 1, 0))
        self.assertIs(line.is_strategy(0, 1, {}), True)
        self.assertIs(line.is_strategy(0, 2, {}), False)
        self.assertIs(line.is_strategy(1, 1, {}), False)
        self.assertIs(line.is_account(1, 0, {}), True)
        self.assertIs(line.is_account(0, 0, {}), False)
        line.tick()
        self.assertEqual((line.hope(0), line.strategy(3), line.right()), (0, {}, (0,)))
        self.assertIs(line.is_strategy(0, 0, {}), True)
        self.assertIs(line.is_strategy(0, 1, {}), False)
        self.assertIs(line.is_account(0, 0, {}), True)
        self.assertIs(line.is_account(0, -1, {}), False)

    def test_positions_elsewhere(self):
        # Positions need not be such as may come, but what is told of them has to hold.
        line = Line(EXAMPLE, 20, 2)
        plan, paper = line.strategy(0), line.account(0)
        self.assertIs(line.is_strategy(0, 2, {**plan, ((0, 1), 0, 0): (2, None)}), False)
        self.assertIs(line.is_strategy(0, 2, {**plan, ((0, 1), 3, 3): (1, None)}), True)
        self.assertIs(line.is_strategy(0, 2, {**plan, ((0, 1), 3, 3): (2, None)}), False)
        self.assertIs(line.is_account(0, 2, {**paper, ((0, 1), 3, 3): 1}), True)
        self.assertIs(line.is_account(0, 2, {**paper, ((0, 1), 3, 3): 0}), False)

    def test_any_values(self):
        line = Line(Reel(PAIR, [(0, (), ALONE, FLAT)]), 39, 0)
        position = ((), 0, 0)
        keys = [None, True, 0, "x", (), ((), 0), ((), 0, 0, 0), (0, 0, 0), ((), False, 0), ((), 0, False), ((), 1, 0), ((), -1, 0), ((), 0, 4),
                ((), 0, -1), ((1,), 0, 0), ((0, 0), 0, 0), ((False,), 0, 0), (None, 0, 0), ((), None, 0), ((), 0, None), ("", 0, 0)]
        for thing in [part for part in NOTHINGS if part != {}] + [SHAPE, [(position, (1, 0))], (position,)]:
            self.assertIs(line.is_strategy(0, -9, thing), False, thing)
            self.assertIs(line.is_account(0, 99, thing), False, thing)
        for key in keys:
            # A key with False in the place of 0 stays there, though the other one comes behind it.
            self.assertIs(line.is_strategy(0, 0, {key: (-9, None), position: (0, 0)}), False, key)
            self.assertIs(line.is_account(0, 1, {key: 9, position: 1}), False, key)
        for told in [None, True, 0, "x", (), (0,), [0, 0], (0, 0, 0), (True, 0), (None, 0), ("0", 0), (0, True), (0, False), (0, 1), (0, -1),
                     (0, "0"), (0, (0,)), (0.5, 0)]:
            self.assertIs(line.is_strategy(0, -9, {position: told}), False, told)
        self.assertIs(line.is_strategy(0, 0, {((0,), 0, 0): (1, 0), position: (0, 0)}), False)
        self.assertIs(line.is_strategy(0, 0, {((0,), 0, 0): (1, None), position: (0, 0)}), True)
        for told in [None, True, False, "1", (1,), [1], (1, 0), 1.5]:
            self.assertIs(line.is_account(0, 9, {position: told}), False, told)

    def test_wait_for(self):
        rng = random.Random(824)
        for _ in range(30):
            reel = small_reel(rng, rng.randint(1, 3))
            largest = max(item_sizes(reel))
            rate, losses = rng.choice([largest, largest // 2 + 1, largest // 4 + 1, largest // 9 + 1]), rng.randint(0, 3)
            does = [wait for wait in range(21) if Line(reel, rate, wait).hope(losses) == len(reel)]
            found = wait_for(reel, rate, losses)
            self.assertEqual(found, does[0] if does else None)
            self.assertEqual(does, list(range(found, 21)) if does else [])
            if losses and found is not None:
                self.assertLessEqual(wait_for(reel, rate, losses - 1), found)
        one = Reel(PAIR, [(0, (), ALONE, FLAT)])
        self.assertEqual([wait_for(one, 39, losses) for losses in range(4)], [0, 1, 2, 3])
        self.assertEqual((wait_for(one, 2, 0), wait_for(one, 1, 0)), (18, None))
        self.assertEqual(wait_for(Reel(Shape(1, 1, 2, 2), one.entries), 1, 3), 0)

    def test_largest_lines(self):
        rng = random.Random(825)
        shape = Shape(3, 3, 0, 9)
        head = chance_head(rng, 1, 0, 1)
        items = [(0, (), ALONE, FLAT)] + [(at, (at - 1,), head, chance_telling(rng, head, shape)) for at in range(1, 5)]
        line = Line(Reel(shape, items), max(item_sizes(Reel(shape, items))) // 3, 20)
        hopes = [line.hope(losses) for losses in range(4)]
        self.assertEqual(hopes, sorted(hopes, reverse=True))
        self.assertIs(line.is_strategy(3, hopes[3], line.strategy(3)), True)
        self.assertIs(line.is_account(3, hopes[3], line.account(3)), True)
        self.assertEqual(shown_planes(line.reel)[0], flat(shape, 4))


def plain_outcomes(line, position, item, left):
    """The outcomes of an item of which so much work is left, or of None, as the document tells them."""
    (there, moment, losses), end = position, line.wait + len(line.reel)

    def gain(shown):
        return sum(moment + at - line.wait in plain_rights(line.reel, lot) for at, lot in enumerate(shown))

    def then(lot, ticks, may_lose):
        return None if moment + ticks == end else (lot, moment + ticks, may_lose)
    if item is None:
        return [(gain([there]), then(there, 1, losses))]
    longer = tuple(sorted(there + (item,)))
    if moment + left <= end:
        found = [(gain([there] * (left - 1) + [longer]), then(longer, left, losses))]
    else:
        found = [(gain([there] * (end - moment)), None)]
    if losses:
        found += [(gain([there] * ticks), then(there, ticks, losses - 1)) for ticks in range(1, left + 1) if moment + ticks <= end]
    return found


def plain_first(line, losses):
    if line.moment() == line.wait + len(line.reel):
        return [(0, None)]
    position = (line.there(), line.moment(), losses)
    if line.busy() is None:
        return [(0, position)]
    return plain_outcomes(line, position, line.busy()[0], line.works()[line.busy()[0]] - line.busy()[1])


def plain_strategy(line, losses, number, thing):
    def holds(least, outcomes):
        return all(gain >= least if after is None else after in thing and gain + thing[after][0] >= least for gain, after in outcomes)
    return holds(number, plain_first(line, losses)) and all(
        holds(least, plain_outcomes(line, position, choice, line.works()[choice] if choice is not None else 1))
        for position, (least, choice) in thing.items())


def plain_account(line, losses, number, thing):
    def holds(most, outcomes):
        return any(gain <= most if after is None else after in thing and gain + thing[after] <= most for gain, after in outcomes)
    return holds(number, plain_first(line, losses)) and all(
        holds(most, plain_outcomes(line, position, choice, line.works()[choice] if choice is not None else 1))
        for position, most in thing.items()
        for choice in [number for number in range(len(line.reel)) if number not in position[0]] + [None])


if __name__ == "__main__":
    unittest.main()
