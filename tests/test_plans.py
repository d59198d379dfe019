import itertools
import random
import unittest

from helpers import (NOTHINGS, SHAPE, flat, plane_of, raises, refuses, with_sample, wrong_numbers, wrong_planes,
                     wrong_shapes)
from pricedreels.errors import (BadCosts, BadFrame, BadFrames, BadHead, BadHold, BadMany, BadPlan, BadReel, BadShape,
                                TooMany)
from pricedreels.fewest import prices
from pricedreels.grids import Shape
from pricedreels.heads import Head
from pricedreels.plans import (costs_of, hold, hold_sum, is_hold, is_least_plan, is_plan, least_plan, least_plan_cost,
                               may_lean, plan_cost, planned, stuck, web_of)
from pricedreels.reels import Reel, shown_planes
from pricedreels.tellings import does_fit, worth
from test_waits import reel_of
from told import full_head

EXAMPLE = [[9, 2, None], [3, 8, 2], [7, 1, 9]]
HOLD = {(0,): 2, (1,): 2, (2,): 1, (0, 1, 2): 6}
START = (0, (0, 0))


def leads_home(plan):
    """Whether one comes from each frame to one that is told alone."""
    for frame in range(len(plan)):
        for _ in plan:
            frame = plan[frame]
        if plan[frame] != frame:
            return False
    return True


def all_plans(many):
    return [plan for plan in itertools.product(range(many), repeat=many) if leads_home(plan)]


def plain_cost(costs, plan):
    parts = [costs[frame][other] for frame, other in enumerate(plan)]
    return None if None in parts else sum(parts)


def groups_of(many):
    return [group for size in range(1, many + 1) for group in itertools.combinations(range(many), size)]


def plain_hold(costs, paper):
    """Whether numbers from 1 on of groups are a hold."""
    for frame, row in enumerate(costs):
        for other, cost in enumerate(row):
            held = sum(number for group, number in paper.items()
                       if frame in group and (other not in group or other == frame))
            if cost is not None and held > cost:
                return False
    return True


def chance_costs(rng, many, most=9):
    return [[rng.choice([None, 0, 1, rng.randint(0, most), rng.randint(0, most)]) for _ in range(many)]
            for _ in range(many)]


def wrong_costs():
    """Values that are no costs, with what BadCosts tells."""
    found = [(thing, None) for thing in (None, True, 0, "", {}, "costs", [], (), SHAPE, {0: [1]}, [[1] * 9] * 9)]
    rows = [None, True, 0, "12", {}, [], [1], [1, 2, 3], {0: 1, 1: 2}, SHAPE]
    rows += [[part, 1] for part in (True, False, "0", -1, 1000000, (0,), [0], SHAPE)] + [[1, -1], [None, "x"], [0, 10 ** 11]]
    for row in rows:
        found += [([row, [1, 2]], 0), ([[1, 2], row], 1), ([row, row], 0)]
    return found


def wrong_plans(many):
    right = list(range(many))
    return [None, True, 0, "", {}, [], (), SHAPE, right[1:], right + [0], "0" * many, {0: 0}] + [
        right[:at] + [part] + right[at + 1:] for at in range(many)
        for part in (None, True if at != 1 else -1, False if at else many, "0", (0,), [0], -1, many, SHAPE)]


class Plans(unittest.TestCase):
    def test_example(self):
        self.assertEqual(plan_cost(EXAMPLE, (1, 1, 1)), 11)
        self.assertEqual((least_plan_cost(EXAMPLE), least_plan(EXAMPLE)), (11, (1, 1, 1)))
        self.assertIs(is_hold(EXAMPLE, HOLD), True)
        self.assertEqual(hold_sum(EXAMPLE, HOLD), 11)
        self.assertIs(is_least_plan(EXAMPLE, (1, 1, 1), HOLD), True)
        self.assertIs(is_least_plan(EXAMPLE, [1, 1, 1], HOLD), True)
        self.assertIsNone(stuck(EXAMPLE))
        self.assertIsNone(plan_cost([[9, None], [3, 8]], (1, 1)))

    def test_what_is_a_plan(self):
        for many in range(1, 5):
            for plan in itertools.product(range(many), repeat=many):
                self.assertIs(is_plan(many, plan), leads_home(plan))
                self.assertIs(is_plan(many, list(plan)), leads_home(plan))
        for many in (1, 2, 3, 8):
            for thing in wrong_plans(many):
                self.assertIs(is_plan(many, thing), False, thing)
        self.assertIs(is_plan(8, (0, 0, 1, 2, 3, 4, 5, 6)), True)
        self.assertIs(is_plan(8, (1, 2, 3, 4, 5, 6, 7, 0)), False)
        self.assertIs(is_plan(3, (1, 0, 2)), False)
        self.assertIs(is_plan(2, (0, True)), False)
        # Too long a list, of which just so many frames come to one that is told alone.
        self.assertIs(is_plan(3, [1, 0, 2, 2, 2]), False)
        refuses(self, is_plan, [8, None], [(0, wrong_numbers(1, 8), BadMany)])

    def test_all_plans(self):
        rng = random.Random(121)
        none = 0
        for _ in range(250):
            many = rng.choice([1, 2, 3, 3, 4])
            costs = chance_costs(rng, many, rng.choice([3, 9, 999999]))
            told = {plan: plain_cost(costs, plan) for plan in all_plans(many)}
            with_cost = [cost for cost in told.values() if cost is not None]
            least = min(with_cost, default=None)
            for plan, cost in list(told.items())[:5]:
                self.assertEqual(plan_cost(costs, plan), cost)
                self.assertEqual(plan_cost(tuple(map(tuple, costs)), list(plan)), cost)
            self.assertEqual(least_plan_cost(costs), least)
            best = [plan for plan, cost in told.items() if cost is not None and cost == least]
            for frame, other in itertools.product(range(many), repeat=2):
                self.assertIs(may_lean(costs, frame, other), any(plan[frame] == other for plan in best))
            if least is None:
                none += 1
                self.assertEqual((least_plan(costs), hold(costs)), (None, None))
                self.assertIsNotNone(stuck(costs))
                continue
            self.assertIsNone(stuck(costs))
            self.assertIn(least_plan(costs), best)
            paper = hold(costs)
            self.assertEqual(sum(paper.values()), least)
            self.assertEqual(list(paper), sorted(paper))
            self.assertTrue(all(group in groups_of(many) and number > 0 for group, number in paper.items()))
            self.assertTrue(plain_hold(costs, paper))
            for one, other in itertools.combinations(map(set, paper), 2):
                self.assertTrue(one < other or other < one or not one & other)
            self.assertIs(is_hold(costs, paper), True)
            self.assertEqual(hold_sum(costs, paper), least)
            for plan, cost in told.items():
                self.assertIs(is_least_plan(costs, plan, paper), cost == least)
        self.assertGreater(none, 10)

    def test_largest_ones(self):
        rng = random.Random(122)
        for at in range(25):
            costs = [[rng.choice([None, rng.randint(0, 30)]) if at % 2 else rng.randint(0, 999999) for _ in range(8)]
                     for _ in range(8)]
            plan, paper = least_plan(costs), hold(costs)
            if plan is None:
                self.assertIsNotNone(stuck(costs))
                continue
            self.assertTrue(leads_home(plan))
            self.assertTrue(plain_hold(costs, paper))
            self.assertEqual(plain_cost(costs, plan), sum(paper.values()))
            self.assertIs(is_least_plan(costs, plan, paper), True)
            for one, other in itertools.combinations(map(set, paper), 2):
                self.assertTrue(one < other or other < one or not one & other)

    def test_no_costs_at_all(self):
        self.assertEqual((hold([[0]]), least_plan([[0]]), least_plan_cost([[0]])), ({}, (0,), 0))
        self.assertIs(is_least_plan([[0]], (0,), {}), True)
        self.assertEqual((hold([[5]]), hold([[None]]), stuck([[None]])), ({(0,): 5}, None, (0,)))
        self.assertEqual(least_plan([[None]]), None)
        self.assertIs(may_lean([[None]], 0, 0), False)

    def test_all_holds(self):
        rng = random.Random(123)
        for _ in range(40):
            costs = chance_costs(rng, 2, 3)
            for numbers in itertools.product(range(4), repeat=3):
                paper = {group: number for group, number in zip(groups_of(2), numbers) if number}
                good = plain_hold(costs, paper)
                self.assertIs(is_hold(costs, paper), good)
                if good:
                    self.assertEqual(hold_sum(costs, paper), sum(numbers))
                else:
                    raises(self, BadHold, hold_sum, [costs, paper])
                for plan in all_plans(2):
                    cost = plain_cost(costs, plan)
                    self.assertIs(is_least_plan(costs, plan, paper), good and cost == sum(numbers))
                    self.assertTrue(cost is None or not good or cost >= sum(numbers))

    def test_values_that_are_none(self):
        less = {group: number for group, number in HOLD.items() if group != (1,)}
        wrongs = [thing for thing in NOTHINGS if thing != {}] + [SHAPE, list(HOLD.items()), tuple(HOLD)]
        wrongs += [{**less, key: 1} for key in ((), (True,), (1, 0), (1, 1), (3,), (-1,), 1, "1", None, ("1",), (None,),
                                                ((1,),), (0, 3))]
        wrongs += [{**less, (1,): number} for number in (0, -1, 3, None, True, False, "1", (1,), SHAPE, 10 ** 11)]
        for thing in wrongs:
            self.assertIs(is_hold(EXAMPLE, thing), False, thing)
            raises(self, BadHold, hold_sum, [EXAMPLE, thing])
            self.assertIs(is_least_plan(EXAMPLE, (1, 1, 1), thing), False)
        self.assertIs(is_hold(EXAMPLE, {}), True)
        self.assertIs(is_hold(EXAMPLE, less), True)
        self.assertIs(is_least_plan(EXAMPLE, (1, 1, 1), less), False)
        self.assertIs(is_hold([[None]], {(0,): 10 ** 11}), True)
        for plan in wrong_plans(3) + [(1, 0, 2), (0, 0, 0), (1, 2, 1), (1, 1, 2)]:
            self.assertIs(is_least_plan(EXAMPLE, plan, HOLD), False, plan)

    def test_stuck(self):
        self.assertEqual(stuck([[None, 3, None], [2, None, None], [1, 1, 4]]), (0, 1))
        self.assertEqual(stuck([[None, 3], [2, 0]]), None)
        self.assertEqual(stuck([[None, None], [2, None]]), (0, 1))
        rng = random.Random(124)
        for _ in range(150):
            many = rng.randint(1, 5)
            costs = [[rng.choice([None, None, None, 0, 7]) for _ in range(many)] for _ in range(many)]
            found = set()
            for group in groups_of(many):
                if all(costs[frame][frame] is None and all(costs[frame][other] is None for other in range(many)
                                                           if other not in group) for frame in group):
                    found |= set(group)
            self.assertEqual(stuck(costs), tuple(sorted(found)) or None)

    def test_wrong_inputs(self):
        calls = [(plan_cost, [None]), (least_plan_cost, []), (least_plan, []), (may_lean, [None, None]), (hold, []),
                 (is_hold, [None]), (hold_sum, [None]), (is_least_plan, [None, None]), (stuck, [])]
        for call, more in calls:
            for costs, at in wrong_costs():
                raises(self, BadCosts, call, [costs] + more, at=at)
        self.assertEqual(least_plan_cost([[999999] * 8] * 8), 8 * 999999)
        refuses(self, plan_cost, [EXAMPLE, [0, 1, 2]], [
            (0, [None], BadCosts, {"at": None}), (1, wrong_plans(3) + [(1, 0, 2), (1, 2, 0)], BadPlan)])
        refuses(self, may_lean, [EXAMPLE, 0, 2], [(0, [None], BadCosts, {"at": None}), (1, wrong_numbers(0, 2), BadFrame),
                                                  (2, wrong_numbers(0, 2), BadFrame)])


class Films(unittest.TestCase):
    def fewest(self, head, shape, plane, references):
        return prices(head, shape, plane, references)[START]

    def chance(self, rng, many):
        shape = Shape(rng.randint(1, 4), rng.randint(1, 5), 0, 9)
        frames = [plane_of(shape, rng)]
        while len(frames) < many:
            spot = (rng.randrange(shape.height), rng.randrange(shape.width))
            frames.append(rng.choice([plane_of(shape, rng), with_sample(rng.choice(frames), spot, rng.randint(0, 9))]))
        return shape, frames, full_head(0, 0, rng.randrange(3), 4), full_head(1, 0, rng.randrange(3), rng.randrange(3))

    def test_costs_by_the_document(self):
        rng = random.Random(125)
        for _ in range(25):
            many = rng.randint(1, 4)
            shape, frames, alone, leaning = self.chance(rng, many)
            expected = [[self.fewest(alone, shape, plane, []) if at == other else
                         self.fewest(leaning, shape, plane, [frames[other]]) for other in range(many)]
                        for at, plane in enumerate(frames)]
            self.assertEqual(costs_of(shape, frames, alone, leaning), expected)
            self.assertEqual(costs_of(shape, tuple(frames), alone, leaning), expected)

    def test_planned_by_the_document(self):
        rng = random.Random(126)
        for _ in range(40):
            many = rng.randint(1, 4)
            shape, frames, alone, leaning = self.chance(rng, many)
            costs = costs_of(shape, frames, alone, leaning)
            plan = rng.choice(all_plans(many) + [least_plan(costs)])
            reel = planned(shape, frames, alone, leaning, plan)
            self.assertIsInstance(reel, Reel)
            self.assertEqual(shown_planes(reel), frames)
            shows = [item[0] for item in reel.entries]
            orders = [order for order in itertools.permutations(range(many))
                      if all(plan[frame] == frame or order.index(plan[frame]) < order.index(frame) for frame in order)]
            self.assertEqual(tuple(shows), min(orders))
            total = 0
            for number, (show, leans, head, telling) in enumerate(reel.entries):
                told_alone = plan[show] == show
                self.assertEqual((leans, head), ((), alone) if told_alone else ((shows.index(plan[show]),), leaning))
                references = [] if told_alone else [frames[plan[show]]]
                self.assertTrue(does_fit(head, shape, telling, references))
                self.assertEqual(worth(head, shape, telling), costs[show][plan[show]])
                total += worth(head, shape, telling)
            self.assertEqual(total, plan_cost(costs, plan))
            self.assertGreaterEqual(total, least_plan_cost(costs))
            self.assertEqual(planned(shape, frames, alone, leaning, list(plan)), reel)

    def test_one_frame(self):
        shape, alone, leaning = Shape(1, 2, 0, 9), full_head(0), full_head(1, 0, 0, 4)
        self.assertEqual(costs_of(shape, [((4, 4),)], alone, leaning), [[1 + 3 + 1]])
        reel = planned(shape, [((4, 4),)], alone, leaning, [0])
        self.assertEqual(reel.entries, ((0, (), alone, (((0, 0, 8), ("flat", "none", ())),)),))

    def test_webs(self):
        self.assertEqual(web_of(reel_of((2,), (0, 0), (1, 0, 1), (3, 2, 2))), [(2,), (0, 2), (), (1,)])
        self.assertEqual(web_of(reel_of((0,))), [()])
        self.assertEqual(web_of(reel_of(*[(number,) for number in range(10)])), [()] * 10)
        self.assertEqual(web_of(reel_of((9,), *[(number, number) for number in range(9)])),
                         [(9,)] + [(number - 1,) for number in range(1, 9)] + [()])
        for many in (11, 32):
            raises(self, TooMany, web_of, [reel_of(*[(number,) for number in range(many)])], most=10)
        refuses(self, web_of, [reel_of((0,))], [(0, NOTHINGS + [SHAPE, 0], BadReel, {"part": None})])

    def test_wrong_inputs(self):
        shape = Shape(2, 3, 0, 9)
        planes = [flat(shape, number) for number in (3, 4)]
        heads = [thing for thing in NOTHINGS if not isinstance(thing, Head)] + [SHAPE, 0]
        frames = [None, True, 0, "", {}, [], (), SHAPE, planes[:1] * 9, {0: planes[0]}]
        no_shape = (0, wrong_shapes(), BadShape, {"part": None})
        checks = [no_shape, (1, frames, BadFrames, {"at": None}),
                  (1, [[wrong, planes[0]] for wrong in wrong_planes(shape)], BadFrames, {"at": 0}),
                  (1, [[planes[0], wrong] for wrong in wrong_planes(shape)], BadFrames, {"at": 1}),
                  (1, [[None, None]], BadFrames, {"at": 0}),
                  (2, heads, BadHead, {"part": None}), (2, [full_head(1), full_head(2), full_head(1, 3)], BadHead, {"part": "kind"}),
                  (2, [full_head(0, 1), full_head(0, 7)], BadHead, {"part": "loss"}),
                  (3, heads, BadHead, {"part": None}), (3, [full_head(0), full_head(2), full_head(2, 3)], BadHead, {"part": "kind"}),
                  (3, [full_head(1, 1), full_head(1, 7)], BadHead, {"part": "loss"})]
        right = [shape, planes, full_head(0), full_head(1)]
        refuses(self, costs_of, right, checks)
        refuses(self, planned, right + [(0, 0)], checks + [(4, wrong_plans(2) + [(1, 0)], BadPlan)])
        self.assertEqual(len(costs_of(shape, planes * 4, full_head(0), full_head(1))), 8)

    def test_limits(self):
        shape = Shape(2, 14, 0, 1)
        plane = flat(shape, 0)
        alone, near, far = full_head(0, 0, 0, 4), full_head(1, 0, 0, 2), full_head(1, 0, 0, 4)
        self.assertEqual(costs_of(shape, [plane], alone, near), [[2 * 5]])
        for frames, plan in (([plane], [0]), ([plane, plane], [1, 1])):
            raises(self, TooMany, costs_of, [shape, frames, alone, far], most=40000)
            raises(self, TooMany, planned, [shape, frames, alone, far, plan], most=40000)
            raises(self, BadPlan, planned, [shape, frames, alone, far, plan + [0]])
            raises(self, BadFrames, costs_of, [shape, [plane, None], alone, far], at=1)
        self.assertEqual(costs_of(Shape(2, 12, 0, 1), [flat(Shape(2, 12, 0, 1), 0)], alone, far), [[2 * 5]])


if __name__ == "__main__":
    unittest.main()
