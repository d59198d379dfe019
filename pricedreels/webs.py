"""Webs of frames that lean on frames: how long to wait for them, and how few to keep at once."""

from pricedreels.checks import is_within
from pricedreels.errors import BadMany, BadOrder, BadSet, BadWait, BadWeb

MOST_FRAMES = 10
MOST_WAIT = 20


def web_wait(web):
    """The least wait with which some order is in time."""
    check_web(web)
    return max(excesses_of(web))


def critical_frame(web):
    """The first of the frames up to which the needed ones are most ahead of the frames."""
    check_web(web)
    found = excesses_of(web)
    return found.index(max(found))


def kept(web, wait, told):
    """The frames that are kept when those of a whole set are told."""
    check_web(web)
    check_wait(wait)
    if not is_whole(web, told):
        raise BadSet("a set is an ascending tuple of frames that has those on which they lean")
    return kept_of(web, wait, told)


def most_kept(web, wait, order):
    """The greatest number of frames that are kept behind any telling of the order."""
    check_web(web)
    check_wait(wait)
    if not is_in_time(web, wait, order):
        raise BadOrder("an order has all frames, behind those on which they lean, and in time")
    return max([len(kept_of(web, wait, sorted(order[:many]))) for many in range(1, len(web) + 1)])


def least_kept(web, wait):
    """The least that most_kept is for an order in time, None if there is none."""
    check_web(web)
    check_wait(wait)
    return least_of(web, wait)


def keeping_order(web, wait):
    """An order in time with as few frames kept as can be, None if there is none."""
    check_web(web)
    check_wait(wait)
    ways = ways_of(web, wait)
    told = tuple(range(len(web)))
    if told not in ways:
        return None
    order = []
    while told != ():
        frame = ways[told][1]
        order.append(frame)
        told = without(told, frame)
    return tuple(order[::-1])


def shore(web, wait, many):
    """The shore with the fewest sets, None if there is none."""
    check_web(web)
    check_wait(wait)
    check_many(many)
    found = {(): True}
    waiting = [()]
    while len(waiting) > 0:
        told = waiting.pop()
        for behind in steps_behind(web, wait, many, told):
            if behind not in found:
                found[behind] = True
                waiting.append(behind)
    if tuple(range(len(web))) in found:
        return None
    return tuple(sorted(list(found)))


def is_shore(web, wait, many, thing):
    """Whether any value is a shore."""
    check_web(web)
    check_wait(wait)
    check_many(many)
    if not isinstance(thing, tuple) or not all([is_whole(web, told) for told in thing]):
        return False
    if not all([one < other for one, other in zip(thing, thing[1:])]):
        return False
    sets = {told: True for told in thing}
    if () not in sets or tuple(range(len(web))) in sets:
        return False
    if not all([len(kept_of(web, wait, told)) <= many for told in thing]):
        return False
    return all([behind in sets for told in thing for behind in steps_behind(web, wait, many, told)])


def trades(web):
    """The pairs of a wait and the frames kept with it, where these are fewer than with each lesser wait."""
    check_web(web)
    found = []
    for wait in range(max(excesses_of(web)), len(web) + 1):
        least = least_of(web, wait)
        if found == [] or least < found[-1][1]:
            found.append((wait, least))
    return found


def check_web(web):
    if not isinstance(web, (list, tuple)) or not 1 <= len(web) <= MOST_FRAMES:
        raise BadWeb(None)
    for frame, row in enumerate(web):
        if not is_lot(row, len(web)) or frame in row:
            raise BadWeb(frame)
    told = []
    while len(told) < len(web):
        ready = [frame for frame in range(len(web)) if frame not in told and are_in(web[frame], told)]
        if ready == []:
            raise BadWeb(None)
        told.extend(ready)


def check_wait(wait):
    if not is_within(wait, 0, MOST_WAIT):
        raise BadWait("a wait is a number from 0 to 20")


def check_many(many):
    if not is_within(many, 0, MOST_FRAMES):
        raise BadMany("a number of kept frames is one from 0 to 10")


def are_in(frames, others):
    """Whether all frames are among the others."""
    return all([frame in others for frame in frames])


def is_lot(thing, many):
    """Whether any value is an ascending tuple of different numbers below many."""
    if not isinstance(thing, tuple) or not all([is_within(number, 0, many - 1) for number in thing]):
        return False
    return all([one < other for one, other in zip(thing, thing[1:])])


def is_whole(web, thing):
    """Whether any value is an ascending tuple that is a whole set."""
    return is_lot(thing, len(web)) and all([are_in(web[frame], thing) for frame in thing])


def is_in_time(web, wait, thing):
    """Whether any value is an order in time."""
    if not isinstance(thing, (list, tuple)) or len(thing) != len(web):
        return False
    if not all([is_within(frame, 0, len(web) - 1) for frame in thing]):
        return False
    return all([frame not in thing[:tick] and are_in(web[frame], thing[:tick]) and tick <= wait + frame
                for tick, frame in enumerate(thing)])


def closed(web, frames):
    """The least whole set with these frames."""
    found = list(frames)
    at = 0
    while at < len(found):
        found.extend([other for other in web[found[at]] if other not in found])
        at += 1
    return tuple(sorted(found))


def excesses_of(web):
    """For each frame how many frames more are needed up to it than are shown by then."""
    return [len(closed(web, list(range(frame + 1)))) - frame - 1 for frame in range(len(web))]


def with_one(told, frame):
    """The set with one frame more."""
    return tuple(sorted(told + (frame,)))


def without(told, frame):
    """The set without one of its frames."""
    return tuple([other for other in told if other != frame])


def next_frames(web, wait, told):
    """The frames that can be told next, in time, behind those of a whole set."""
    return [frame for frame in range(len(web))
            if frame not in told and are_in(web[frame], told) and len(told) <= wait + frame]


def steps_behind(web, wait, many, told):
    """The sets of one frame more, told in time, of which at most many frames are kept."""
    found = [with_one(told, frame) for frame in next_frames(web, wait, told)]
    return [behind for behind in found if len(kept_of(web, wait, behind)) <= many]


def kept_of(web, wait, told):
    """As kept, for what was looked at."""
    tick = len(told) - 1
    needed = [frame for other in range(len(web)) if other not in told for frame in web[other]]
    return tuple([frame for frame in told if wait + frame > tick or frame in needed])


def ways_of(web, wait):
    """For each whole set that can be told in time the least number of frames kept by then, and the last frame."""
    found = {(): (0, None)}
    reached = [()]
    for _ in range(len(web)):
        behind = {}
        for told in reached:
            for frame in next_frames(web, wait, told):
                longer = with_one(told, frame)
                many = max(found[told][0], len(kept_of(web, wait, longer)))
                if longer not in behind or many < behind[longer][0]:
                    behind[longer] = (many, frame)
        for told, way in behind.items():
            found[told] = way
        reached = list(behind)
    return found


def least_of(web, wait):
    """As least_kept, for what was looked at."""
    ways = ways_of(web, wait)
    told = tuple(range(len(web)))
    return ways[told][0] if told in ways else None
