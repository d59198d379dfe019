"""Motion: how far a picture is from another one that is moved, and papers that show the least distance."""

from pricedreels.checks import has_keys, is_number, is_tuple_of, is_within
from pricedreels.copies import check_vector, copy_of, vectors_of
from pricedreels.errors import BadCut, BadLeast, BadReach
from pricedreels.grids import check_block, check_plane, check_shape, spots_of

MOST_REACH = 4


def difference(shape, now, then, block, vector):
    """What now and the copy of then by the vector are apart at the block's spots, together."""
    check_planes(shape, now, then)
    check_block(shape, block)
    check_vector(vector)
    return difference_at(shape, now, then, block, vector)


def differences(shape, now, then, block, reach):
    """The dict from all vectors of the reach to their differences."""
    check_motion(shape, now, then, block, reach)
    return differences_of(shape, now, then, block, reach)


def best_vectors(shape, now, then, block, reach):
    """The vectors, ascending, with the least difference."""
    check_motion(shape, now, then, block, reach)
    found = differences_of(shape, now, then, block, reach)
    least = least_of(found)
    return [vector for vector, number in found.items() if number == least]


def spots_paper(shape, now, then, block, reach):
    """The least difference, and for each vector as few spots as can be that come to it together."""
    check_motion(shape, now, then, block, reach)
    least = least_of(differences_of(shape, now, then, block, reach))
    return least, {vector: fewest_spots(shape, now, then, block, vector, least) for vector in vectors_of(reach)}


def is_spots_paper(shape, now, then, block, reach, thing):
    """Whether any value is a spots paper of the block."""
    check_motion(shape, now, then, block, reach)
    if not is_paper(thing, reach):
        return False
    least, chosen = thing
    for vector in vectors_of(reach):
        apart = apart_at(shape, now, then, block, vector)
        told = chosen[vector]
        if not is_ascending(told, 2) or not all([spot in apart for spot in told]):
            return False
        if sum([apart[spot] for spot in told]) < least:
            return False
    return True


def cut_bound(shape, now, then, block, vector, cut):
    """What the sums over the squares of the cut are apart, together."""
    check_planes(shape, now, then)
    check_block(shape, block)
    check_vector(vector)
    if not is_cut(shape, block, cut):
        raise BadCut("a cut is an ascending tuple of squares that come of the block by quartering")
    return bound_of(shape, rests_at(shape, now, then, block, vector), cut)


def fewest_squares(shape, now, then, block, vector, least):
    """The least number of squares of a cut whose bound is at least least, None if there is none."""
    check_planes(shape, now, then)
    check_block(shape, block)
    check_vector(vector)
    if not is_number(least):
        raise BadLeast("the least bound is a number")
    found = best_cuts(shape, rests_at(shape, now, then, block, vector), block)
    fitting = [many for many, (bound, _) in found.items() if bound >= least]
    return min(fitting) if fitting else None


def cut_paper(shape, now, then, block, reach):
    """The least difference, and for each vector a cut with as few squares as can be whose bound comes to it."""
    check_motion(shape, now, then, block, reach)
    least = least_of(differences_of(shape, now, then, block, reach))
    cuts = {}
    for vector in vectors_of(reach):
        found = best_cuts(shape, rests_at(shape, now, then, block, vector), block)
        many = min([squares for squares, (bound, _) in found.items() if bound >= least])
        cuts[vector] = tuple(sorted(found[many][1]))
    return least, cuts


def is_cut_paper(shape, now, then, block, reach, thing):
    """Whether any value is a pair of a number and cuts, for all vectors, with bounds that come to it."""
    check_motion(shape, now, then, block, reach)
    if not is_paper(thing, reach):
        return False
    least, cuts = thing
    for vector in vectors_of(reach):
        if not is_cut(shape, block, cuts[vector]):
            return False
        if bound_of(shape, rests_at(shape, now, then, block, vector), cuts[vector]) < least:
            return False
    return True


def check_planes(shape, now, then):
    check_shape(shape)
    check_plane(shape, now)
    check_plane(shape, then)


def check_reach(reach):
    if not is_within(reach, 0, MOST_REACH):
        raise BadReach("a reach is a number from 0 to 4")


def check_motion(shape, now, then, block, reach):
    check_planes(shape, now, then)
    check_block(shape, block)
    check_reach(reach)


def rests_at(shape, now, then, block, vector):
    """The dict from the block's spots to the sample of now less that of the copy."""
    copies = copy_of(shape, block, vector, then)
    return {(y, x): now[y][x] - number for (y, x), number in zip(spots_of(shape, block), copies)}


def apart_at(shape, now, then, block, vector):
    """The dict from the block's spots to what now and the copy are apart there."""
    rests = rests_at(shape, now, then, block, vector)
    return {spot: abs(rest) for spot, rest in rests.items()}


def difference_at(shape, now, then, block, vector):
    """As difference, for what was looked at."""
    return sum(list(apart_at(shape, now, then, block, vector).values()))


def differences_of(shape, now, then, block, reach):
    """As differences, for what was looked at."""
    return {vector: difference_at(shape, now, then, block, vector) for vector in vectors_of(reach)}


def least_of(found):
    return min(list(found.values()))


def fewest_spots(shape, now, then, block, vector, least):
    """As few spots, ascending, as can be at which now and the copy are apart by least together."""
    apart = apart_at(shape, now, then, block, vector)
    chosen = []
    reached = 0
    for number, spot in sorted([(-number, spot) for spot, number in apart.items()]):
        if reached < least:
            chosen.append(spot)
            reached -= number
    return tuple(sorted(chosen))


def is_ascending(thing, many):
    """Whether any value is an ascending tuple of different tuples of so many numbers."""
    if not isinstance(thing, tuple) or not all([is_tuple_of(part, many) for part in thing]):
        return False
    if not all([is_number(number) for part in thing for number in part]):
        return False
    return all([one < other for one, other in zip(thing, thing[1:])])


def is_paper(thing, reach):
    """Whether any value is a pair of a number and a dict from just all vectors of the reach."""
    return is_tuple_of(thing, 2) and is_number(thing[0]) and has_keys(thing[1], vectors_of(reach))


def parts_of(shape, square):
    """The quarters of a square, of any size above 1, that have a spot."""
    top, left, size = square
    half = size // 2
    return [(y, x, half) for y in (top, top + half) for x in (left, left + half)
            if y < shape.height and x < shape.width]


def squares_of(shape, square, chosen):
    """The chosen squares that come of the square, and single spots where none is chosen."""
    if square[2] == 1 or square in chosen:
        return [square]
    return [part for quarter in parts_of(shape, square) for part in squares_of(shape, quarter, chosen)]


def is_cut(shape, block, thing):
    """Whether any value is a cut of the block."""
    return is_ascending(thing, 3) and list(thing) == sorted(squares_of(shape, block, thing))


def bound_of(shape, rests, cut):
    """As cut_bound, rests being those of rests_at."""
    return sum([abs(sum([rests[spot] for spot in spots_of(shape, square)])) for square in cut])


def best_cuts(shape, rests, square):
    """For each number of squares of a cut of the square the greatest bound, and the list of the squares."""
    found = {1: (abs(sum([rests[spot] for spot in spots_of(shape, square)])), [square])}
    if square[2] == 1:
        return found
    parts = {0: (0, [])}
    for quarter in parts_of(shape, square):
        parts = joined_cuts(parts, best_cuts(shape, rests, quarter))
    # One square that comes of quartering has the same spots as the square itself.
    for many, best in parts.items():
        found[many] = best
    return found


def joined_cuts(cuts, others):
    """The best cuts of two areas together, by those of each."""
    found = {}
    for many, (bound, squares) in cuts.items():
        for more, (other, parts) in others.items():
            if many + more not in found or found[many + more][0] < bound + other:
                found[many + more] = (bound + other, squares + parts)
    return found
