"""Fields of vectors, one for each block of a size, and those of the least worth, shown by prices."""

from pricedreels.bits import long_length
from pricedreels.checks import is_prices_for, is_within
from pricedreels.copies import FARTHEST, is_vector, vectors_of
from pricedreels.errors import BadField, BadPrice, BadSize, TooMany
from pricedreels.grids import SIZES, check_shape, quarters_of, roots_of
from pricedreels.motion import check_planes, check_reach, difference_at, differences_of

MOST_TRIES = 20000
MOST_PRICE = 99
MOST_BITS = 22
AHEAD = (0, 0)


def field_sum(shape, now, then, size, field):
    """The sum of the differences of the blocks at the field's vectors."""
    check_planes(shape, now, then)
    check_size(size)
    blocks = blocks_sized(shape, size)
    check_field(blocks, field)
    return sum([difference_at(shape, now, then, block, vector) for block, vector in zip(blocks, field)])


def field_bits(shape, size, field):
    """How many bits tell the field."""
    check_shape(shape)
    check_size(size)
    check_field(blocks_sized(shape, size), field)
    return bits_of_field(field)


def least_field(shape, now, then, size, reach, price):
    """The least worth of all fields of the reach, and the first field that has it."""
    check_priced(shape, now, then, size, reach, price)
    rows = rows_of_differences(shape, now, then, size, reach)
    field = cheapest(rows, 1, price)
    bits, total = pair_of(rows, field)
    return total + price * bits, field


def many_least_fields(shape, now, then, size, reach, price):
    """How many fields have the least worth."""
    check_priced(shape, now, then, size, reach, price)
    rows = rows_of_differences(shape, now, then, size, reach)
    found = worths_left(rows, 1, price)
    ways = {(len(rows), vector): 1 for vector in vectors_of(reach)}
    for place in reversed(range(len(rows))):
        for last in lasts_at(rows, place):
            costs = costs_at(rows, place, last, 1, price)
            ways[(place, last)] = sum([ways[(place + 1, vector)] for vector, cost in costs
                                       if cost + found[(place + 1, vector)] == found[(place, last)]])
    return ways[(0, AHEAD)]


def field_prices(shape, now, then, size, reach, price):
    """The greatest prices: for each place and last vector the least worth of what is left."""
    check_priced(shape, now, then, size, reach, price)
    rows = rows_of_differences(shape, now, then, size, reach)
    found = worths_left(rows, 1, price)
    return {key: found[key] for key in keys_of(rows)}


def is_field_prices(shape, now, then, size, reach, price, thing):
    """Whether any value is prices."""
    check_priced(shape, now, then, size, reach, price)
    rows = rows_of_differences(shape, now, then, size, reach)
    if not is_prices_for(thing, keys_of(rows)):
        return False
    if not all([thing[(len(rows), vector)] <= 0 for vector in vectors_of(reach)]):
        return False
    for place, last in keys_of(rows):
        for vector, cost in costs_at(rows, place, last, 1, price):
            if thing[(place, last)] > thing[(place + 1, vector)] + cost:
                return False
    return True


def field_bends(shape, now, then, size, reach):
    """The pairs of bits and sum that some price makes better than all others, bits ascending."""
    check_motions(shape, now, then, size, reach)
    check_many(shape, size, reach)
    rows = rows_of_differences(shape, now, then, size, reach)
    # So heavy a bit counts more than all sums, so heavy a difference more than all bits.
    heavy = 1 + sum([max(list(row.values())) for row in rows])
    first = pair_of(rows, cheapest(rows, 1, heavy))
    last = pair_of(rows, cheapest(rows, beyond_bits(rows), 1))
    return [first] + bends_behind(rows, first, last)


def check_size(size):
    if size not in SIZES:
        raise BadSize("the blocks of a field are of size 8, 4 or 2")


def check_field(blocks, field):
    if not isinstance(field, tuple) or len(field) != len(blocks):
        raise BadField("a field has one vector for each block")
    if not all([is_vector(vector, FARTHEST) for vector in field]):
        raise BadField("a field is made of vectors")


def check_motions(shape, now, then, size, reach):
    check_planes(shape, now, then)
    check_size(size)
    check_reach(reach)


def check_many(shape, size, reach):
    many = len(vectors_of(reach))
    if len(blocks_sized(shape, size)) * many * many > MOST_TRIES:
        raise TooMany(MOST_TRIES)


def check_priced(shape, now, then, size, reach, price):
    check_motions(shape, now, then, size, reach)
    if not is_within(price, 0, MOST_PRICE):
        raise BadPrice("a price is a number from 0 to 99")
    check_many(shape, size, reach)


def blocks_sized(shape, size):
    """The blocks of this size, places ascending."""
    found = roots_of(shape)
    while found[0][2] > size:
        found = [quarter for block in found for quarter in quarters_of(shape, block)]
    return found


def bits_between(last, vector):
    """How many bits tell the vector behind the last one."""
    return long_length(vector[0] - last[0]) + long_length(vector[1] - last[1])


def bits_of_field(field):
    """As field_bits, for a field that was looked at."""
    return sum([bits_between(last, vector) for last, vector in zip((AHEAD,) + field, field)])


def rows_of_differences(shape, now, then, size, reach):
    """Block by block the dict from all vectors to their differences."""
    return [differences_of(shape, now, then, block, reach) for block in blocks_sized(shape, size)]


def pair_of(rows, field):
    """The bits and the sum of a field."""
    return bits_of_field(field), sum([row[vector] for row, vector in zip(rows, field)])


def lasts_at(rows, place):
    """The vectors that can come ahead of the block at this place."""
    return [AHEAD] if place == 0 else list(rows[0])


def keys_of(rows):
    """The pairs of a place and a vector, ascending, for which there are prices."""
    return [(place, last) for place in range(len(rows) + 1) for last in lasts_at(rows, place)]


def costs_at(rows, place, last, weight, price):
    """The pairs of a vector for the block at this place and what it costs, none behind the last place."""
    if place == len(rows):
        return []
    return [(vector, weight * number + price * bits_between(last, vector)) for vector, number in rows[place].items()]


def worths_left(rows, weight, price):
    """The least of weight times the sum and price times the bits that are left, for each place and last vector."""
    found = {(len(rows), vector): 0 for vector in rows[0]}
    for place in reversed(range(len(rows))):
        for last in lasts_at(rows, place):
            found[(place, last)] = min([cost + found[(place + 1, vector)]
                                        for vector, cost in costs_at(rows, place, last, weight, price)])
    return found


def cheapest(rows, weight, price):
    """The first field with the least of weight times its sum and price times its bits."""
    found = worths_left(rows, weight, price)
    field = ()
    last = AHEAD
    for place in range(len(rows)):
        last = min([vector for vector, cost in costs_at(rows, place, last, weight, price)
                    if cost + found[(place + 1, vector)] == found[(place, last)]])
        field += (last,)
    return field


def beyond_bits(rows):
    """A number that is above the bits of each field."""
    return 1 + MOST_BITS * len(rows)


def bends_behind(rows, one, other):
    """The bends behind one of them up to another one."""
    if one == other:
        return []
    bits = other[0] - one[0]
    fall = one[1] - other[1]
    # At the price at which both have the same worth the best pair of fewest bits
    # is a bend, if it is better than they are.
    scale = beyond_bits(rows)
    found = pair_of(rows, cheapest(rows, scale * bits, scale * fall + 1))
    if bits * found[1] + fall * found[0] == bits * one[1] + fall * one[0]:
        return [other]
    return bends_behind(rows, one, found) + bends_behind(rows, found, other)
