"""Buffers: what a line has to bring by when, for one reel, for all reels within bounds, for several reels."""

from pricedreels.checks import is_tuple_of, is_within
from pricedreels.errors import BadBounds, BadDelay, BadHold, BadJobs, BadRate, BadRoom, BadSizes, TooMany

MOST_FRAMES = 12
MOST_SIZE = 9999
MOST_RATE = 9999
MOST_DELAY = 40
MOST_HELD = 99999
MOST_TRIED = 1000
MOST_JOBS = 5
MOST_JOB_FRAMES = 6
MOST_START = 20


def is_sending(sizes, rate, delay, hold, room, thing):
    """Whether any value is a sending."""
    check_line(sizes, rate, delay)
    check_held(hold, room)
    last = last_tick(sizes, delay, hold)
    if not isinstance(thing, (list, tuple)) or len(thing) != last:
        return False
    if not all([is_within(many, 0, rate) for many in thing]):
        return False
    brought = [sum(thing[:tick]) for tick in range(last + 1)]
    return brought[-1] == sum(sizes) and all([least <= many <= most for least, many, most in zip(
        least_brought(sizes, delay, hold, last), brought, most_brought(sizes, delay, hold, room, last))])


def sending(sizes, rate, delay, hold, room):
    """The sending by which as many bits as can be are brought behind each tick, None if there is none."""
    check_line(sizes, rate, delay)
    check_held(hold, room)
    return sending_of(sizes, rate, delay, hold, room)


def strait(sizes, rate, delay, hold, room):
    """The first strait, None if there is none."""
    check_line(sizes, rate, delay)
    check_held(hold, room)
    last = last_tick(sizes, delay, hold)
    least = least_brought(sizes, delay, hold, last)
    most = most_brought(sizes, delay, hold, room, last)
    return first_pair(last, [[least[end] - most[start] > rate * (end - start) for end in range(last + 1)]
                             for start in range(last + 1)])


def is_strait(sizes, rate, delay, hold, room, thing):
    """Whether any value is a strait."""
    check_line(sizes, rate, delay)
    check_held(hold, room)
    last = last_tick(sizes, delay, hold)
    if not are_ticks(thing, last):
        return False
    start, end = thing
    least = least_brought(sizes, delay, hold, last)[end]
    return least - most_brought(sizes, delay, hold, room, last)[start] > rate * (end - start)


def least_delay(sizes, rate, hold, room):
    """The least delay with which there is a sending, None if there is none."""
    check_sizes(sizes)
    check_rate(rate)
    check_held(hold, room)
    # More delay may hurt, so each one is tried.
    found = [delay for delay in range(MOST_DELAY + 1) if sending_of(sizes, rate, delay, hold, room) is not None]
    return found[0] if found else None


def least_hold(sizes, rate, delay, room):
    """The least hold with which there is a sending, None if there is none."""
    check_line(sizes, rate, delay)
    check_room(room)
    return least_number(0, MOST_HELD, lambda hold: sending_of(sizes, rate, delay, hold, room) is not None)


def least_room(sizes, rate, delay, hold):
    """The least room with which there is a sending, None if there is none."""
    check_line(sizes, rate, delay)
    check_hold(hold)
    return room_for(sizes, rate, delay, hold)


def least_line_rate(sizes, delay, hold, room):
    """The least rate with which there is a sending, None if there is none."""
    check_sizes(sizes)
    check_delay(delay, MOST_DELAY)
    check_held(hold, room)
    return least_number(1, MOST_RATE, lambda rate: sending_of(sizes, rate, delay, hold, room) is not None)


def corners(sizes, rate):
    """The pairs of a delay and a room with which there is a sending, but none with either of both less by one."""
    check_sizes(sizes)
    check_rate(rate)
    found = []
    for delay in range(MOST_DELAY + 1):
        room = room_for(sizes, rate, delay, None)
        # Without a hold more delay never hurts, so the rooms only fall.
        if room is not None and (found == [] or room < found[-1][1]):
            found.append((delay, room))
    return found


def are_within(bounds, sizes):
    """Whether the sizes are within the bounds."""
    check_bounds(bounds)
    check_sizes(sizes)
    most, burst, pace = bounds
    return max(sizes) <= most and all([sum(sizes[start:end]) <= burst + (end - start) * pace
                                       for start in range(len(sizes)) for end in range(start + 1, len(sizes) + 1)])


def all_delay(bounds, rate):
    """The least delay with which there is a sending for all sizes within the bounds, None if there is none."""
    check_bounds(bounds)
    check_rate(rate)
    return delay_for_all(bounds, rate)


def worst_sizes(bounds, rate, delay):
    """The fewest and greatest sizes within the bounds for which the delay does not do, None if it does for all."""
    check_bounds(bounds)
    check_rate(rate)
    check_delay(delay, MOST_SIZE)
    enough = delay_for_all(bounds, rate)
    if enough is not None and enough <= delay:
        return None
    found = []
    while len(found) < MOST_TRIED:
        many = len(found)
        found.append(most_bits(bounds, many + 1) - most_bits(bounds, many))
        if sum(found) > rate * (delay + many):
            return found
    raise TooMany(MOST_TRIED)


def all_room(bounds, rate):
    """The least room with which there is a sending with some delay for all sizes within the bounds, None if none."""
    check_bounds(bounds)
    check_rate(rate)
    if not is_bounded(bounds, rate):
        return None
    return max([most_bits(bounds, many) - rate * (many - 1) for many in worst_manies(bounds)])


def share(jobs, rate):
    """A share of the jobs, None if there is none."""
    check_jobs(jobs)
    check_rate(rate)
    return share_of(jobs, rate)


def is_share(jobs, rate, thing):
    """Whether any value is a share of the jobs."""
    check_jobs(jobs)
    check_rate(rate)
    last = last_due(jobs)
    if not isinstance(thing, (list, tuple)) or len(thing) != last:
        return False
    for part in thing:
        if not is_tuple_of(part, len(jobs)) or not all([is_within(many, 0, rate) for many in part]):
            return False
    if not all([sum(part) <= rate for part in thing]):
        return False
    return all([is_served(job, [row[at] for row in thing]) for at, job in enumerate(jobs)])


def crush(jobs, rate):
    """The first crush, None if there is none."""
    check_jobs(jobs)
    check_rate(rate)
    last = last_due(jobs)
    return first_pair(last, [[is_crushed(jobs, rate, start, end) for end in range(last + 1)]
                             for start in range(last + 1)])


def is_crush(jobs, rate, thing):
    """Whether any value is a crush."""
    check_jobs(jobs)
    check_rate(rate)
    return are_ticks(thing, last_due(jobs)) and is_crushed(jobs, rate, thing[0], thing[1])


def least_shared_rate(jobs):
    """The least rate with which there is a share, None if there is none."""
    check_jobs(jobs)
    return least_number(1, MOST_RATE, lambda rate: share_of(jobs, rate) is not None)


def check_sizes(sizes):
    if not are_sizes(sizes, MOST_FRAMES):
        raise BadSizes("sizes are a list of 1 to 12 numbers from 0 to 9999")


def check_rate(rate):
    if not is_within(rate, 1, MOST_RATE):
        raise BadRate("a rate is a number from 1 to 9999")


def check_delay(delay, most):
    if not is_within(delay, 0, most):
        raise BadDelay("a delay is a number from 0 on")


def check_line(sizes, rate, delay):
    check_sizes(sizes)
    check_rate(rate)
    check_delay(delay, MOST_DELAY)


def check_hold(hold):
    if hold is not None and not is_within(hold, 0, MOST_HELD):
        raise BadHold("a hold is None or a number from 0 to 99999")


def check_room(room):
    if room is not None and not is_within(room, 0, MOST_HELD):
        raise BadRoom("a room is None or a number from 0 to 99999")


def check_held(hold, room):
    check_hold(hold)
    check_room(room)


def check_bounds(bounds):
    if not is_tuple_of(bounds, 3) or not is_within(bounds[0], 1, MOST_SIZE):
        raise BadBounds("bounds are a triple of most, burst and pace")
    if not is_within(bounds[1], 0, MOST_HELD) or not is_within(bounds[2], 0, MOST_SIZE):
        raise BadBounds("a burst is a number from 0 to 99999, a pace one from 0 to 9999")


def check_jobs(jobs):
    if not isinstance(jobs, (list, tuple)) or not 1 <= len(jobs) <= MOST_JOBS:
        raise BadJobs(None)
    for at, job in enumerate(jobs):
        if not is_tuple_of(job, 3) or not are_sizes(job[0], MOST_JOB_FRAMES):
            raise BadJobs(at)
        if not is_within(job[1], 0, MOST_START) or not is_within(job[2], 0, MOST_START):
            raise BadJobs(at)


def are_sizes(thing, many):
    """Whether any value is a list of 1 to so many sizes."""
    return (isinstance(thing, (list, tuple)) and 1 <= len(thing) <= many
            and all([is_within(size, 0, MOST_SIZE) for size in thing]))


def are_ticks(thing, last):
    """Whether any value is a pair of ticks up to the last one, the first not behind the second."""
    return is_tuple_of(thing, 2) and is_within(thing[1], 0, last) and is_within(thing[0], 0, thing[1])


def last_tick(sizes, delay, hold):
    """The last tick of a sending."""
    taken = delay + len(sizes) - 1
    return taken if hold is None else max(taken, len(sizes))


def taken_by(sizes, delay, tick):
    """The bits of all frames that are taken by this tick."""
    return sum(sizes[:max(0, tick - delay + 1)])


def least_brought(sizes, delay, hold, last):
    """How many bits must have been brought behind each tick from 0 to the last one."""
    found = []
    for tick in range(last + 1):
        taken = taken_by(sizes, delay, tick)
        found.append(taken if hold is None else max(taken, sum(sizes[:tick]) - hold))
    return found


def most_brought(sizes, delay, hold, room, last):
    """How many bits can have been brought at most behind each tick from 0 to the last one."""
    found = [0]
    for tick in range(1, last + 1):
        many = sum(sizes) if hold is None else sum(sizes[:tick])
        found.append(many if room is None else min(many, taken_by(sizes, delay, tick - 1) + room))
    return found


def sending_of(sizes, rate, delay, hold, room):
    """As sending, for what was looked at."""
    last = last_tick(sizes, delay, hold)
    brought = [0]
    for most in most_brought(sizes, delay, hold, room, last)[1:]:
        brought.append(min(brought[-1] + rate, most))
    if any([many < least for many, least in zip(brought, least_brought(sizes, delay, hold, last))]):
        return None
    return [many - ahead for ahead, many in zip(brought, brought[1:])]


def room_for(sizes, rate, delay, hold):
    """As least_room, for what was looked at."""
    return least_number(0, MOST_HELD, lambda room: sending_of(sizes, rate, delay, hold, room) is not None)


def least_number(low, high, does):
    """The least number from low to high that does, as all greater ones do; None if there is none."""
    if not does(high):
        return None
    while low < high:
        middle = (low + high) // 2
        if does(middle):
            high = middle
        else:
            low = middle + 1
    return low


def first_pair(last, table):
    """The first pair of ticks, one not behind the other, for which the table holds; None if there is none."""
    for start in range(last + 1):
        for end in range(start, last + 1):
            if table[start][end]:
                return start, end
    return None


def most_bits(bounds, many):
    """The most bits that so many frames one behind the other can have."""
    most, burst, pace = bounds
    return min(many * most, burst + many * pace)


def is_bounded(bounds, rate):
    """Whether what frames have more than the line brings in as many ticks does not grow on and on."""
    return bounds[0] <= rate or bounds[2] <= rate


def worst_manies(bounds):
    """Numbers of frames among which the one is that has the most bits more than the line brings in as many ticks."""
    most, burst, pace = bounds
    if most <= pace:
        return [1]
    bend = burst // (most - pace)
    return [1, max(1, bend), bend + 1]


def delay_for_all(bounds, rate):
    """As all_delay, for what was looked at."""
    if not is_bounded(bounds, rate):
        return None
    return max([-(-most_bits(bounds, many) // rate) - many + 1 for many in worst_manies(bounds)])


def last_due(jobs):
    """The last tick at which a frame is due."""
    return max([start + delay + len(sizes) - 1 for sizes, start, delay in jobs])


def share_of(jobs, rate):
    """As share, for what was looked at: what is due first is brought first."""
    left = [list(sizes) for sizes, _, _ in jobs]
    frames = sorted([(start + delay + frame, at, frame) for at, (sizes, start, delay) in enumerate(jobs)
                     for frame in range(len(sizes))])
    found = []
    for tick in range(1, last_due(jobs) + 1):
        free = rate
        part = [0] * len(jobs)
        for _, at, frame in frames:
            if jobs[at][1] < tick:
                many = min(free, left[at][frame])
                left[at][frame] -= many
                part[at] += many
                free -= many
        found.append(tuple(part))
    if all([is_served(job, [row[at] for row in found]) for at, job in enumerate(jobs)]):
        return found
    return None


def is_served(job, brought):
    """Whether what is brought for the job in each tick is there in time, and is all in the end."""
    sizes, start, delay = job
    if any(brought[:start]) or sum(brought) != sum(sizes):
        return False
    return all([sum(brought[:start + delay + frame]) >= sum(sizes[:frame + 1]) for frame in range(len(sizes))])


def is_crushed(jobs, rate, first, end):
    """Whether the frames due by the end, of jobs that start from the first tick on, are too much for the line."""
    due = sum([taken_by(sizes, start + delay, end) for sizes, start, delay in jobs if start >= first])
    return due > rate * (end - first)
