"""Waits: orders in which a reel is told, and how long its pictures have to wait for them."""

from pricedreels.checks import is_tuple_of, is_within
from pricedreels.errors import BadOrder, BadWait
from pricedreels.reels import Reel, check_reel, needed_for, numbers_shown

MOST_WAIT = 40


def retold(reel, order):
    """The reel whose items are told in this order."""
    check_reel(reel)
    if not is_order(reel, order):
        raise BadOrder("an order is a tuple of all items, each behind those on which it leans")
    entries = []
    for number in order:
        show, leans, head, telling = reel.entries[number]
        entries.append((show, tuple([order.index(lean) for lean in leans]), head, telling))
    return Reel(reel.shape, entries)


def wait_of(reel):
    """The least wait with which all items are told in time."""
    check_reel(reel)
    return wait_for_all(reel)


def least_wait(reel):
    """The least wait over all orders of telling."""
    check_reel(reel)
    return max(excesses(reel))


def wait_order(reel):
    """The first of the orders with the least wait."""
    check_reel(reel)
    due = due_ticks(reel, max(excesses(reel)))
    order = []
    left = list(range(len(due)))
    while len(left) > 0:
        number = first_in_time(reel, due, left)
        order.append(number)
        left = [other for other in left if other != number]
    return tuple(order)


def critical_place(reel):
    """The first of the places up to which the needed items are most ahead of the places."""
    check_reel(reel)
    found = excesses(reel)
    return found.index(max(found))


def kept_pictures(reel, wait):
    """For each tick how many pictures are kept at its end."""
    check_reel(reel)
    if not is_within(wait, wait_for_all(reel), MOST_WAIT):
        raise BadWait("a wait is a number from wait_of to 40")
    shows = [item[0] for item in reel.entries]
    ends = [max([wait + show - 1] + leaning_last(reel, number)) for number, show in enumerate(shows)]
    return [len([number for number, end in enumerate(ends) if number <= tick <= end])
            for tick in range(wait + len(shows))]


def is_order(reel, thing):
    """Whether any value is an order of telling of the reel's items."""
    many = len(reel.entries)
    if not is_tuple_of(thing, many) or not all([is_within(number, 0, many - 1) for number in thing]):
        return False
    if sorted(thing) != list(range(many)):
        return False
    return all([lean in thing[:at] for at, number in enumerate(thing) for lean in reel.entries[number][1]])


def wait_for_all(reel):
    """As wait_of, for a reel that was looked at."""
    return max([0] + [number - item[0] for number, item in enumerate(reel.entries)])


def excesses(reel):
    """For each place how many items more are needed up to it than are shown by then."""
    numbers = numbers_shown(reel)
    return [len(needed_for(reel, numbers[:place + 1])) - place - 1 for place in range(len(numbers))]


def due_ticks(reel, wait):
    """For each item the last tick in which it can be told, so that it and all that lean on it are in time."""
    due = [wait + item[0] for item in reel.entries]
    for number in reversed(range(len(due))):
        for lean in reel.entries[number][1]:
            due[lean] = min(due[lean], due[number] - 1)
    return due


def first_in_time(reel, due, left):
    """The first of the items left which can be told now with all others in time."""
    tick = len(due) - len(left)
    for number in left:
        ready = not any([lean in left for lean in reel.entries[number][1]])
        others = sorted([due[other] for other in left if other != number])
        if ready and all([end > tick + at for at, end in enumerate(others)]):
            return number
    return None


def leaning_last(reel, number):
    """The last ticks, if any, at whose end the item is kept for one that leans on it."""
    return [other - 1 for other, item in enumerate(reel.entries) if number in item[1]]
