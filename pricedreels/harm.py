"""Harm: what is right, and by how much the rest can be wrong, when samples or whole pieces are lost."""

from pricedreels.checks import clipped, is_tuple_of, is_within
from pricedreels.errors import BadError, BadHurt, BadLots, BadStore, TooMany
from pricedreels.grids import check_shape
from pricedreels.rules import area_of, looked_by, number_of, numbers_in, single_masks
from pricedreels.stretches import (check_index, check_memory, check_spot, check_store, check_stretch, flat_store,
                                   is_spot, is_store_of, is_stretch_of, planes_from, run_pieces, run_with_lost,
                                   runs_of, samples_of, spot_at, where_equal)
from pricedreels.webs import is_lot

MOST_ERROR = 1023
MOST_TRIED = 8
MOST_ROUNDS = 4096


def is_stretch(shape, memory, thing):
    """Whether any value is a stretch."""
    check_shape(shape)
    check_memory(memory)
    return is_stretch_of(shape, memory, thing)


def shown(shape, memory, stretch, store):
    """The planes that are shown, piece by piece."""
    check_led(shape, memory, stretch, store)
    return planes_from(shape, run_pieces(shape, runs_of(shape, stretch), samples_of(store))[0])


def behind(shape, memory, stretch, store):
    """The store behind all pieces."""
    check_led(shape, memory, stretch, store)
    return planes_from(shape, run_pieces(shape, runs_of(shape, stretch), samples_of(store))[1])


def between(shape, memory, stretch, low, high):
    """The planes that are shown from both stores, of which the first one is nowhere above the other."""
    check_led(shape, memory, stretch, low)
    check_store(shape, memory, high)
    for at, (lows, highs) in enumerate(zip(samples_of(low), samples_of(high))):
        if any([one > other for one, other in zip(lows, highs)]):
            raise BadStore(at)
    runs = runs_of(shape, stretch)
    least, most = [run_pieces(shape, runs, samples_of(store))[0] for store in (low, high)]
    return planes_from(shape, least), planes_from(shape, most)


def right(shape, memory, stretch):
    """For each piece the spots that show the same whatever the store was."""
    check_stretch(shape, memory, stretch)
    runs = runs_of(shape, stretch)
    least, most = [run_pieces(shape, runs, flat_store(shape, memory, number))[0] for number in (shape.low, shape.high)]
    return [where_equal(shape, lows, highs) for lows, highs in zip(least, most)]


def looks(shape, memory, stretch, index, spot):
    """The samples of the store at which what the piece shows at the spot looks, over all looked at on the way."""
    check_stretch(shape, memory, stretch)
    check_index(stretch, index)
    check_spot(shape, spot)
    area = area_of(shape)
    masks = [single_masks(area, slot * area) for slot in range(memory)]
    for sources, rules in runs_of(shape, stretch)[:index + 1]:
        masks = [looked_by(rules, [masks[source] for source in sources])] + masks[:-1]
    found = numbers_in(masks[0][number_of(shape, 0, spot)])
    return [(at // area,) + spot_at(shape, at % area) for at in found]


def harm(shape, memory, stretch, store, hurt):
    """For each piece the spots that can show different numbers, with the least and the greatest of them."""
    check_led(shape, memory, stretch, store)
    check_hurt(shape, memory, hurt)
    least, most = ends_shown(shape, runs_of(shape, stretch), store, hurt)
    return [{spot_at(shape, at): (low, high) for at, (low, high) in enumerate(zip(lows, highs)) if low != high}
            for lows, highs in zip(least, most)]


def worst(shape, memory, stretch, store, hurt):
    """The greatest difference between what is shown from the store and with other numbers in the hurt samples."""
    check_led(shape, memory, stretch, store)
    check_hurt(shape, memory, hurt)
    runs = runs_of(shape, stretch)
    told = run_pieces(shape, runs, samples_of(store))[0]
    return max([farthest(told, other) for other in ends_shown(shape, runs, store, hurt)])


def spread(shape, memory, stretch, store, error):
    """For each piece the greatest difference that samples of the store make which differ by at most error."""
    check_led(shape, memory, stretch, store)
    if not is_within(error, 0, MOST_ERROR):
        raise BadError("an error is a number from 0 to 1023")
    runs = runs_of(shape, stretch)
    planes = samples_of(store)
    told = run_pieces(shape, runs, planes)[0]
    ends = []
    for by in (-error, error):
        moved = [[clipped(number + by, shape.low, shape.high) for number in samples] for samples in planes]
        ends.append(run_pieces(shape, runs, moved)[0])
    return [max([farthest([samples], [end[at]]) for end in ends]) for at, samples in enumerate(told)]


def after_losses(shape, memory, stretch, store, lost):
    """For each piece the least and the greatest plane that can be shown, the lost pieces being any planes."""
    check_led(shape, memory, stretch, store)
    check_lost(stretch, lost)
    least, most = ends_with_lost(shape, runs_of(shape, stretch), store, lost)
    return list(zip(planes_from(shape, least), planes_from(shape, most)))


def right_after(shape, memory, stretch, store, lost):
    """For each piece the spots that are right then, none for a lost one."""
    check_led(shape, memory, stretch, store)
    check_lost(stretch, lost)
    least, most = ends_with_lost(shape, runs_of(shape, stretch), store, lost)
    return [[] if index in lost else where_equal(shape, lows, highs)
            for index, (lows, highs) in enumerate(zip(least, most))]


def enough(shape, memory, stretch, store, index):
    """The least lots of pieces with which, all others being lost, the piece shows all its spots right."""
    check_led(shape, memory, stretch, store)
    check_index(stretch, index)
    if len(stretch) > MOST_TRIED:
        raise TooMany(MOST_TRIED)
    runs = runs_of(shape, stretch)[:index + 1]
    lots = [(index,)]
    for piece in range(index):
        lots = lots + [tuple(sorted(lot + (piece,))) for lot in lots]
    found = []
    for _, lot in sorted([(len(lot), lot) for lot in lots]):
        if not any([all([part in lot for part in less]) for less in found]):
            lost = tuple([other for other in range(index) if other not in lot])
            least, most = ends_with_lost(shape, runs, store, lost)
            if least[index] == most[index]:
                found.append(lot)
    return found


def rests(shape, memory, stretch):
    """How the stretch heals, told again and again, or between which two stores it comes to rest apart."""
    check_stretch(shape, memory, stretch)
    return rests_of(shape, memory, stretch)


def is_rests(shape, memory, stretch, thing):
    """Whether any value tells rightly that the stretch heals, or that it stays apart."""
    check_stretch(shape, memory, stretch)
    if not is_tuple_of(thing, 3):
        return False
    word, one, other = thing
    runs = runs_of(shape, stretch)
    if word == "healed":
        if not is_within(one, 0, MOST_ROUNDS) or not is_store_of(shape, memory, other):
            return False
        rest = samples_of(other)
        return (run_pieces(shape, runs, rest)[1] == rest
                and all([behind_rounds(shape, runs, flat_store(shape, memory, number), one) == rest
                         for number in (shape.low, shape.high)]))
    if word != "apart" or not is_store_of(shape, memory, one) or not is_store_of(shape, memory, other):
        return False
    stores = [samples_of(store) for store in (one, other)]
    return stores[0] != stores[1] and all([run_pieces(shape, runs, planes)[1] == planes for planes in stores])


def dies_out(shape, memory, stretch):
    """Whether the stretch, told again and again, heals."""
    check_stretch(shape, memory, stretch)
    return rests_of(shape, memory, stretch)[0] == "healed"


def check_led(shape, memory, stretch, store):
    check_stretch(shape, memory, stretch)
    check_store(shape, memory, store)


def check_hurt(shape, memory, hurt):
    if not is_hurt(shape, memory, hurt):
        raise BadHurt("what is hurt is an ascending tuple of one or more different samples of the store")


def check_lost(stretch, lost):
    if not is_lot(lost, len(stretch)):
        raise BadLots("a lot is an ascending tuple of different indexes of pieces")


def is_hurt(shape, memory, thing):
    """Whether any value is an ascending tuple of one or more different samples of the store."""
    if not isinstance(thing, tuple) or thing == ():
        return False
    for part in thing:
        if not is_tuple_of(part, 3) or not is_within(part[0], 0, memory - 1) or not is_spot(shape, part[1:]):
            return False
    return all([one < other for one, other in zip(thing, thing[1:])])


def ends_shown(shape, runs, store, hurt):
    """The samples that are shown with the lowest, and with the highest, numbers in the hurt samples."""
    found = []
    for number in (shape.low, shape.high):
        planes = samples_of(store)
        for slot, y, x in hurt:
            planes[slot][number_of(shape, 0, (y, x))] = number
        found.append(run_pieces(shape, runs, planes)[0])
    return found


def ends_with_lost(shape, runs, store, lost):
    """The samples that are shown with the lowest, and with the highest, planes in the place of the lost pieces."""
    planes = samples_of(store)
    return [run_with_lost(shape, runs, planes, lost, number) for number in (shape.low, shape.high)]


def farthest(told, others):
    """The greatest difference between the samples of planes and of as many others."""
    return max([abs(one - other) for samples, more in zip(told, others) for one, other in zip(samples, more)])


def behind_rounds(shape, runs, planes, rounds):
    """The samples of the store behind so many rounds."""
    for _ in range(rounds):
        led = run_pieces(shape, runs, planes)[1]
        if led == planes:
            return planes
        planes = led
    return planes


def rests_of(shape, memory, stretch):
    """As rests, for what was looked at."""
    runs = runs_of(shape, stretch)
    low, high = [flat_store(shape, memory, number) for number in (shape.low, shape.high)]
    for rounds in range(MOST_ROUNDS + 1):
        if low == high:
            return "healed", rounds, planes_from(shape, low)
        lower, higher = [run_pieces(shape, runs, planes)[1] for planes in (low, high)]
        if lower == low and higher == high:
            return "apart", planes_from(shape, low), planes_from(shape, high)
        low, high = lower, higher
    raise TooMany(MOST_ROUNDS)
