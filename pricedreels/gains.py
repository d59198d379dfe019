"""Gains: which frames of a web are worth what they need, shown by shifts, and reels thinned by a price."""

from math import gcd

from pricedreels.checks import is_prices_for, is_tuple_of, is_within
from pricedreels.errors import BadGains, BadPrice, BadShift, BadSizes, BadWorths
from pricedreels.webs import check_web, is_whole

MOST_GAIN = 9999999999
MOST_WORTH = 9999
MOST_PRICE = 99999


def greatest_gain(web, gains):
    """The greatest gain of a whole set."""
    check_gains(web, gains)
    return max([gain_of(gains, chosen) for chosen in whole_sets(web)])


def best_sets(web, gains):
    """The least and the greatest of the whole sets with the greatest gain."""
    check_gains(web, gains)
    return best_of(web, gains)


def shift(web, gains):
    """A shift with the least bound."""
    check_gains(web, gains)
    numbers = {pair: 0 for pair in pairs_of(web)}
    while True:
        left = left_of(gains, numbers)
        way = way_down(numbers, left)
        if way is None:
            return numbers
        numbers = shifted(numbers, way, left)


def is_shift(web, thing):
    """Whether any value is a shift."""
    check_web(web)
    return is_shift_of(web, thing)


def shift_bound(web, gains, paper):
    """The sum of all that is left of frames and above 0."""
    check_gains(web, gains)
    if not is_shift_of(web, paper):
        raise BadShift("a shift is a dict from all pairs of frames that lean to numbers from 0 on")
    return bound_by(gains, paper)


def is_best(web, gains, chosen, thing):
    """Whether two values are a whole set and a shift whose bound is its gain."""
    check_gains(web, gains)
    return is_whole(web, chosen) and is_shift_of(web, thing) and bound_by(gains, thing) == gain_of(gains, chosen)


def thinned(web, worths, sizes, price):
    """The greatest of the best sets, if each bit has this price."""
    check_worths(web, worths, sizes)
    if not is_tuple_of(price, 2) or not is_within(price[0], 0, MOST_PRICE) or not is_within(price[1], 1, MOST_PRICE):
        raise BadPrice("a price is a pair of numbers, the second one from 1 on")
    over, under = price
    return best_of(web, [under * worth - over * size for worth, size in zip(worths, sizes)])[1]


def thinnings(web, worths, sizes):
    """The prices, ascending, from which on thinned is another set, each with this set."""
    check_worths(web, worths, sizes)
    points = {}
    for chosen in whole_sets(web):
        point = (gain_of(sizes, chosen), gain_of(worths, chosen))
        points[point] = together(points.get(point, ()), chosen)
    _, point = min([((-worth, size), (size, worth)) for size, worth in points])
    price = (0, 1)
    found = [(price, points[point])]
    while point[0] > min([size for size, _ in points]):
        price, point = next_bend(points, point)
        found.append((price, points[point]))
    return found


def check_gains(web, gains):
    check_web(web)
    if not are_numbers(web, gains, -MOST_GAIN, MOST_GAIN):
        raise BadGains("gains are a list of one number for each frame")


def check_worths(web, worths, sizes):
    check_web(web)
    if not are_numbers(web, worths, 0, MOST_WORTH):
        raise BadWorths("worths are a list of one number for each frame")
    if not are_numbers(web, sizes, 0, MOST_WORTH):
        raise BadSizes("sizes are a list of one number for each frame")


def are_numbers(web, thing, low, high):
    """Whether any value is a list of one number from low to high for each frame."""
    return (isinstance(thing, (list, tuple)) and len(thing) == len(web)
            and all([is_within(number, low, high) for number in thing]))


def whole_sets(web):
    """All whole sets."""
    found = [()]
    for frame in range(len(web)):
        found = found + [chosen + (frame,) for chosen in found]
    return [chosen for chosen in found if is_whole(web, chosen)]


def together(chosen, other):
    """The frames of two sets."""
    return tuple(sorted(list({frame: True for frame in chosen + other})))


def gain_of(gains, chosen):
    """The sum of the gains of these frames."""
    return sum([gains[frame] for frame in chosen])


def best_of(web, gains):
    """As best_sets, for what was looked at."""
    sets = whole_sets(web)
    most = max([gain_of(gains, chosen) for chosen in sets])
    best = [chosen for chosen in sets if gain_of(gains, chosen) == most]
    # What two of the best sets have in common, or have together, is one of them.
    many = [len(chosen) for chosen in best]
    return best[many.index(min(many))], best[many.index(max(many))]


def pairs_of(web):
    """The pairs of a frame and one on which it leans, ascending."""
    return [(frame, other) for frame, row in enumerate(web) for other in row]


def is_shift_of(web, thing):
    """As is_shift, for a web that was looked at."""
    return is_prices_for(thing, pairs_of(web)) and all([number >= 0 for number in thing.values()])


def left_of(gains, numbers):
    """What is left of each frame, numbers being those of a shift."""
    left = list(gains)
    for (frame, other), number in numbers.items():
        left[frame] -= number
        left[other] += number
    return left


def bound_by(gains, numbers):
    """The sum of all that is left of frames and above 0."""
    return sum([number for number in left_of(gains, numbers) if number > 0])


def way_down(numbers, left):
    """A shortest way of frames, along which something can be shifted, from one with more than 0 to one with less.

    None if there is none: then the frames to which ways lead are a whole set
    that keeps all that is left above 0.
    """
    ways = [(frame,) for frame, number in enumerate(left) if number > 0]
    reached = {way[0]: True for way in ways}
    at = 0
    while at < len(ways):
        way = ways[at]
        if left[way[-1]] < 0:
            return way
        for frame in range(len(left)):
            leads = (way[-1], frame) in numbers or numbers.get((frame, way[-1]), 0) > 0
            if leads and frame not in reached:
                reached[frame] = True
                ways.append(way + (frame,))
        at += 1
    return None


def shifted(numbers, way, left):
    """The shift with as much more as can be along the way."""
    steps = list(zip(way, way[1:]))
    backs = [numbers[(other, frame)] for frame, other in steps if (frame, other) not in numbers]
    many = min([left[way[0]], -left[way[-1]]] + backs)
    found = {pair: number for pair, number in numbers.items()}
    for frame, other in steps:
        if (frame, other) in numbers:
            found[(frame, other)] += many
        else:
            found[(other, frame)] -= many
    return found


def next_bend(points, point):
    """The price at which another point is as good as this one, and the one of least size that first is."""
    size, worth = point
    price = None
    chosen = None
    for other in sorted(list(points)):
        drop = size - other[0]
        fall = worth - other[1]
        if drop > 0 and (price is None or fall * price[1] < price[0] * drop):
            price = (fall // gcd(fall, drop), drop // gcd(fall, drop))
            chosen = other
    return price, chosen
