"""Plans: which frames lean on which, with the fewest bits, shown by holds."""

from pricedreels.checks import is_number, is_within
from pricedreels.errors import BadCosts, BadFrame, BadFrames, BadHead, BadHold, BadMany, BadPlan, TooMany
from pricedreels.fewest import check_many, fewest_cost, fewest_of
from pricedreels.grids import check_shape, fits_shape
from pricedreels.heads import check_head
from pricedreels.reels import Reel, check_reel
from pricedreels.webs import MOST_FRAMES, is_lot

MOST_PLANNED = 8
MOST_COST = 999999


def is_plan(many, thing):
    """Whether any value is a plan for many frames."""
    if not is_within(many, 1, MOST_PLANNED):
        raise BadMany("a plan is for 1 to 8 frames")
    return is_plan_for(many, thing)


def plan_cost(costs, plan):
    """The cost of the plan, None if one of its items is None."""
    check_costs(costs)
    check_plan(len(costs), plan)
    return cost_of(costs, plan)


def least_plan_cost(costs):
    """The least cost of a plan, None if no plan has one."""
    check_costs(costs)
    return least_cost(costs)


def least_plan(costs):
    """A plan with the least cost, None if no plan has one."""
    check_costs(costs)
    if least_cost(costs) is None:
        return None
    left = [list(row) for row in costs]
    plan = []
    for frame in range(len(costs)):
        chosen = [other for other in range(len(costs)) if may_lean_on(left, frame, other)][0]
        left = forced(left, frame, chosen)
        plan.append(chosen)
    return tuple(plan)


def may_lean(costs, frame, other):
    """Whether some plan with the least cost has other as its item frame."""
    check_costs(costs)
    if not is_within(frame, 0, len(costs) - 1) or not is_within(other, 0, len(costs) - 1):
        raise BadFrame("a frame is a number below the number of frames")
    return may_lean_on(costs, frame, other)


def hold(costs):
    """A hold with the greatest sum, its groups within one another or apart; None if no plan has a cost."""
    check_costs(costs)
    found = hold_of(costs)
    return None if found is None else {group: found[group] for group in sorted(list(found))}


def is_hold(costs, thing):
    """Whether any value is a hold."""
    check_costs(costs)
    return is_hold_of(costs, thing)


def hold_sum(costs, paper):
    """The sum of the numbers of the hold."""
    check_costs(costs)
    if not is_hold_of(costs, paper):
        raise BadHold("a hold is a dict from groups of frames to numbers that no costs undercut")
    return sum(list(paper.values()))


def is_least_plan(costs, plan, thing):
    """Whether two values are a plan with a cost and a hold with this sum."""
    check_costs(costs)
    if not is_plan_for(len(costs), plan) or not is_hold_of(costs, thing):
        return False
    return cost_of(costs, plan) == sum(list(thing.values()))


def stuck(costs):
    """The greatest set of frames that neither are told alone nor lean out of it, None if there are none."""
    check_costs(costs)
    found = stuck_of(costs)
    return None if found == () else found


def costs_of(shape, frames, alone, leaning):
    """The costs in which each item is the fewest bits that tell the frame so."""
    check_film(shape, frames, alone, leaning)
    check_both_many(shape, alone, leaning)
    return [[fewest_cost(alone, shape, plane, []) if frame == other else
             fewest_cost(leaning, shape, plane, [reference]) for other, reference in enumerate(frames)]
            for frame, plane in enumerate(frames)]


def planned(shape, frames, alone, leaning, plan):
    """The reel that tells the frames by the plan, each with the fewest bits."""
    check_film(shape, frames, alone, leaning)
    check_plan(len(frames), plan)
    check_both_many(shape, alone, leaning)
    order = first_order(plan)
    entries = []
    for frame in order:
        other = plan[frame]
        if other == frame:
            entries.append((frame, (), alone, fewest_of(alone, shape, frames[frame], [])))
        else:
            telling = fewest_of(leaning, shape, frames[frame], [frames[other]])
            entries.append((frame, (order.index(other),), leaning, telling))
    return Reel(shape, entries)


def web_of(reel):
    """The web of the places of the reel."""
    check_reel(reel)
    if len(reel.entries) > MOST_FRAMES:
        raise TooMany(MOST_FRAMES)
    rows = {show: [reel.entries[lean][0] for lean in leans] for show, leans, _, _ in reel.entries}
    return [tuple([other for other in range(len(rows)) if other in rows[place]]) for place in range(len(rows))]


def check_costs(costs):
    if not isinstance(costs, (list, tuple)) or not 1 <= len(costs) <= MOST_PLANNED:
        raise BadCosts(None)
    for frame, row in enumerate(costs):
        if not isinstance(row, (list, tuple)) or len(row) != len(costs):
            raise BadCosts(frame)
        if not all([cost is None or is_within(cost, 0, MOST_COST) for cost in row]):
            raise BadCosts(frame)


def check_plan(many, plan):
    if not is_plan_for(many, plan):
        raise BadPlan("a plan tells for each frame on which it leans, and each comes to one that is told alone")


def check_film(shape, frames, alone, leaning):
    check_shape(shape)
    if not isinstance(frames, (list, tuple)) or not 1 <= len(frames) <= MOST_PLANNED:
        raise BadFrames(None)
    for at, plane in enumerate(frames):
        if not fits_shape(shape, plane):
            raise BadFrames(at)
    for kind, head in enumerate((alone, leaning)):
        check_head(head)
        if head.kind != kind:
            raise BadHead("kind")
        if head.loss != 0:
            raise BadHead("loss")


def check_both_many(shape, alone, leaning):
    check_many(alone, shape)
    check_many(leaning, shape)


def is_plan_for(many, thing):
    """As is_plan, for a number that was looked at."""
    if not isinstance(thing, (list, tuple)) or len(thing) != many:
        return False
    if not all([is_within(other, 0, many - 1) for other in thing]):
        return False
    return len(first_order(thing)) == many


def first_order(plan):
    """The first order of the frames, each behind the one on which it leans, as far as there is one."""
    order = []
    for _ in range(len(plan)):
        ready = [frame for frame, other in enumerate(plan)
                 if frame not in order and (frame == other or other in order)]
        order.extend(ready[:1])
    return order


def cost_of(costs, plan):
    """As plan_cost, for what was looked at."""
    parts = [costs[frame][other] for frame, other in enumerate(plan)]
    return None if None in parts else sum(parts)


def least_cost(costs):
    """As least_plan_cost, for costs that were looked at."""
    found = hold_of(costs)
    return None if found is None else sum(list(found.values()))


def forced(costs, frame, other):
    """The costs in which the frame can lean on the other one alone."""
    return [[cost if row != frame or column == other else None for column, cost in enumerate(line)]
            for row, line in enumerate(costs)]


def may_lean_on(costs, frame, other):
    """As may_lean, for what was looked at."""
    least = least_cost(costs)
    return least is not None and least_cost(forced(costs, frame, other)) == least


def stuck_of(costs):
    """As stuck, () if there are none."""
    free = []
    for _ in range(len(costs)):
        free.extend([frame for frame in range(len(costs)) if frame not in free
                     and any([costs[frame][other] is not None for other in free + [frame]])])
    return tuple([frame for frame in range(len(costs)) if frame not in free])


def hold_of(costs):
    """As hold, the groups in the order in which they come; None if no plan has a cost.

    Costs that are used up make ways. A least group out of which there is none
    holds as much as its cheapest way out costs, until all frames have ways.
    """
    if stuck_of(costs) != ():
        return None
    left = [list(row) for row in costs]
    found = {}
    while True:
        group = shut_group(left)
        if group == ():
            return found
        outs = [(frame, other) for frame in group for other in range(len(left))
                if (other == frame or other not in group) and left[frame][other] is not None]
        found[group] = min([left[frame][other] for frame, other in outs])
        for frame, other in outs:
            left[frame][other] -= found[group]


def shut_group(left):
    """The first of the least groups whose frames have used up no cost that leads out; () if there is none."""
    groups = [group_from(left, frame) for frame in range(len(left))]
    shut = [(len(group), group) for group in groups if not any([left[frame][frame] == 0 for frame in group])]
    return min(shut)[1] if shut else ()


def group_from(left, frame):
    """The frames, ascending, to which used up costs lead from this one."""
    found = [frame]
    at = 0
    while at < len(found):
        found.extend([other for other, cost in enumerate(left[found[at]]) if cost == 0 and other not in found])
        at += 1
    return tuple(sorted(found))


def is_hold_of(costs, thing):
    """As is_hold, for costs that were looked at."""
    if not isinstance(thing, dict):
        return False
    for group, number in thing.items():
        if not is_lot(group, len(costs)) or group == () or not is_number(number) or number < 1:
            return False
    for frame, row in enumerate(costs):
        for other, cost in enumerate(row):
            held = sum([number for group, number in thing.items()
                        if frame in group and (other == frame or other not in group)])
            if cost is not None and held > cost:
                return False
    return True
