"""Renewals: what is told anew so that harm dies out, whatever else is told, and what it takes."""

from pricedreels.checks import clipped, is_within
from pricedreels.errors import (BadIndex, BadLosses, BadMany, BadMost, BadOther, BadPlanes, BadReach, BadRenewals,
                                TooMany)
from pricedreels.grids import cells_of, check_shape, fits_shape, is_block_of, quarters_of, roots_of, spots_of
from pricedreels.harm import check_led, check_lost
from pricedreels.heads import Head
from pricedreels.losses import level_for, step_of
from pricedreels.rules import (area_of, flat_samples, many_in, number_of, numbers_in, rules_by_blocks, sample_from)
from pricedreels.stretches import (check_index, check_pieces, check_spot, check_stretch, is_spot, is_stretch_of,
                                   planes_from, run_pieces, run_with_lost, runs_of, samples_of, spot_at)

REACHES = (0, 2, 4)
MOST_PIECES = 12
MOST_PICTURES = 6
MOST_CELLS = 6
MOST_LOSSES = 11
# Words of one bit for "flat" and "copy".
COPYING = (1, 0, 0, 0, 0, 1, 0, 0)


def is_kept(shape, reach, renewals, thing):
    """Whether any value is a stretch that keeps the renewals."""
    check_renewals(shape, reach, renewals)
    return (is_stretch_of(shape, 1, thing) and len(thing) == len(renewals)
            and all([keeps(reach, renewal, piece) for renewal, piece in zip(renewals, thing)]))


def safe(shape, reach, renewals):
    """For each piece the spots that are right in it in all stretches that keep the renewals."""
    check_renewals(shape, reach, renewals)
    return [spots_in(shape, mask) for mask in safe_masks(shape, reach, renewals)]


def spoiler(shape, reach, renewals, index, spot):
    """A stretch that keeps the renewals and shows both ends at the spot of the piece, None if the spot is safe."""
    check_renewals(shape, reach, renewals)
    check_index(renewals, index)
    check_spot(shape, spot)
    masks = safe_masks(shape, reach, renewals)
    if spot in spots_in(shape, masks[index]):
        return None
    vectors = [(0, 0)] * len(renewals)
    for at in reversed(range(1, index + 1)):
        near = [other for other in nearby(shape, reach, spot) if other not in spots_in(shape, masks[at - 1])][0]
        vectors[at] = (2 * (near[0] - spot[0]), 2 * (near[1] - spot[1]))
        spot = near
    head = Head(1, 0, 0, reach, COPYING)
    return [(head, tuple(keeping_parts(shape, renewal, vector, roots_of(shape))), (0,))
            for renewal, vector in zip(renewals, vectors)]


def least_renewals(shape, reach, pictures):
    """The least number of cells in each picture with which all is safe in the last one, and such renewals."""
    check_plan(shape, reach, pictures)
    check_many_cells(shape)
    most = 0
    while True:
        ways = ways_to_lots(shape, reach, pictures, most)[-1]
        if whole_mask(shape) in ways:
            return most, list(ways[whole_mask(shape)])
        most += 1


def barrier(shape, reach, pictures, most):
    """For each piece the greatest lots of spots that are safe in it, None if all can be safe in the last one."""
    check_plan(shape, reach, pictures)
    check_most(most)
    check_many_cells(shape)
    layers = ways_to_lots(shape, reach, pictures, most)
    if whole_mask(shape) in layers[-1]:
        return None
    return [sorted([tuple(spots_in(shape, mask)) for mask in layer]) for layer in layers]


def is_barrier(shape, reach, pictures, most, thing):
    """Whether any value bars renewals of at most so many cells each from making all safe in the last piece."""
    check_plan(shape, reach, pictures)
    check_most(most)
    check_many_cells(shape)
    if not isinstance(thing, (list, tuple)) or len(thing) != pictures:
        return False
    if not all([isinstance(lots, (list, tuple)) and all([is_spots(shape, lot) for lot in lots]) for lots in thing]):
        return False
    layers = [[mask_of(shape, lot) for lot in lots] for lots in thing]
    nears = near_masks(shape, reach)
    renewed = [mask_of_blocks(shape, renewal) for renewal in choices_of(shape, most)]
    ahead = [0]
    for layer in layers:
        reached = [safe_behind(shape, nears, mask, before) for before in ahead for mask in renewed]
        if not all([any([mask & lot == mask for lot in layer]) for mask in reached]):
            return False
        ahead = layer
    return whole_mask(shape) not in layers[-1]


def to_renew(shape, memory, stretch, store, lost, index):
    """The blocks of the piece which the lost pieces can change, if what lies ahead of them is told rightly."""
    check_led(shape, memory, stretch, store)
    check_lost(stretch, lost)
    check_index(stretch, index)
    if index in lost:
        raise BadIndex("a piece that is lost tells nothing anew")
    runs = runs_of(shape, stretch)
    planes = samples_of(store)
    head, telling, sources = stretch[index]
    told = run_pieces(shape, runs, planes)[0][index]
    ends = []
    for number in (shape.low, shape.high):
        ahead = run_with_lost(shape, runs[:index], planes, lost, number)[::-1] + planes
        ends.append([sample for source in sources for sample in ahead[source]] + told)
    return [block for (block, _), rules in zip(telling, rules_by_blocks(head, shape, telling))
            if any([sample_from(shape, groups, rest, ends[0]) != sample_from(shape, groups, rest, ends[1])
                    for _, groups, rest in rules])]


def with_loop(shape, losses, planes):
    """The planes that are shown if each sample is guessed from the one that was shown ahead."""
    check_drift(shape, losses)
    check_planes(shape, losses, planes)
    return shown_along(shape, losses, planes, True)


def without_loop(shape, losses, planes):
    """The planes that are shown if each sample is guessed from the one of the plane ahead."""
    check_drift(shape, losses)
    check_planes(shape, losses, planes)
    return shown_along(shape, losses, planes, False)


def drift(shape, losses):
    """The greatest distances, plane by plane, between what is shown without the loop and the planes."""
    check_drift(shape, losses)
    return drifts(shape, losses)


def worst_planes(shape, losses):
    """Planes that reach all of these distances at each spot."""
    check_drift(shape, losses)
    # A sample that falls by no more than the loss has the level 0, so what is shown stays.
    return [((shape.high - by,) * shape.width,) * shape.height for by in drifts(shape, losses)]


def heights(shape, memory, stretch, other):
    """For each piece, block by block, by how much the levels that are left out can change it at most."""
    check_stretch(shape, memory, stretch)
    check_pieces(shape, memory, other)
    if not are_alike_but_for_levels(stretch, other):
        raise BadOther("the other stretch is alike but for levels")
    planes = [[0] * area_of(shape) for _ in range(memory)]
    found = []
    for (head, telling, sources), (_, others, _) in zip(stretch, other):
        reached = [height for source in sources for height in planes[source]] + [0] * area_of(shape)
        highest = []
        for rules, more in zip(rules_by_blocks(head, shape, telling), rules_by_blocks(head, shape, others)):
            looked = [reached[at] for _, groups, _ in rules for group in groups for at in group]
            apart = max([abs(one[2] - two[2]) for one, two in zip(rules, more)])
            highest.append(apart + max([0] + looked))
            for at, _, _ in rules:
                reached[at] = highest[-1]
        found.append(highest)
        planes = [reached[len(sources) * area_of(shape):]] + planes[:-1]
    return found


def check_reach(reach):
    if not is_within(reach, 0, 4) or reach not in REACHES:
        raise BadReach("a reach is 0, 2 or 4")


def check_renewals(shape, reach, renewals):
    check_shape(shape)
    check_reach(reach)
    if not isinstance(renewals, (list, tuple)) or not 1 <= len(renewals) <= MOST_PIECES:
        raise BadRenewals(None)
    for at, renewal in enumerate(renewals):
        if not is_renewal(shape, renewal):
            raise BadRenewals(at)


def check_plan(shape, reach, pictures):
    check_shape(shape)
    check_reach(reach)
    if not is_within(pictures, 1, MOST_PICTURES):
        raise BadMany("there are 1 to 6 pictures")


def check_most(most):
    if not is_within(most, 0, MOST_CELLS):
        raise BadMost("the most cells are a number from 0 to 6")


def check_many_cells(shape):
    if len(cells_of(shape)) > MOST_CELLS:
        raise TooMany(MOST_CELLS)


def check_drift(shape, losses):
    check_shape(shape)
    if not isinstance(losses, (list, tuple)) or not 1 <= len(losses) <= MOST_LOSSES:
        raise BadLosses("losses are a list of 1 to 11 numbers")
    if not all([is_within(loss, 0, 7) for loss in losses]):
        raise BadLosses("a loss is a number from 0 to 7")


def check_planes(shape, losses, planes):
    if not isinstance(planes, (list, tuple)) or len(planes) != len(losses) + 1:
        raise BadPlanes("there is one plane more than losses")
    if not all([fits_shape(shape, plane) for plane in planes]):
        raise BadPlanes("the planes are planes of the shape")


def is_renewal(shape, thing):
    """Whether any value is an ascending tuple of blocks, no two of which share a spot."""
    if not isinstance(thing, tuple) or not all([is_block_of(shape, block) for block in thing]):
        return False
    told = [spot for block in thing for spot in spots_of(shape, block)]
    return all([one < other for one, other in zip(thing, thing[1:])]) and len({spot for spot in told}) == len(told)


def is_spots(shape, thing):
    """Whether any value is a tuple of different spots."""
    if not isinstance(thing, tuple) or not all([is_spot(shape, spot) for spot in thing]):
        return False
    return len({spot for spot in thing}) == len(thing)


def keeps(reach, renewal, piece):
    """Whether a piece keeps the renewal."""
    head, telling, _ = piece
    blocks = [block for block, _ in telling]
    if head.kind != 1 or head.reach != reach or not all([block in blocks for block in renewal]):
        return False
    return all([choice[0] == "flat" if block in renewal else choice[0] in ("copy", "still")
                for block, choice in telling])


def keeping_parts(shape, renewal, vector, blocks):
    """Pairs of blocks and choices that tell the renewal by "flat", and all else of the blocks by "copy"."""
    found = []
    for block in blocks:
        top, left, size = block
        if block in renewal:
            found.append((block, ("flat", "none", ())))
        elif any([top <= y < top + size and left <= x < left + size for y, x, _ in renewal]):
            found.extend(keeping_parts(shape, renewal, vector, quarters_of(shape, block)))
        else:
            found.append((block, ("copy", 0, vector, "none", ())))
    return found


def nearby(shape, reach, spot):
    """The spots that differ from this one by at most half the reach, in the row and in the column."""
    by = reach // 2
    return [(y, x) for y in range(max(0, spot[0] - by), min(shape.height, spot[0] + by + 1))
            for x in range(max(0, spot[1] - by), min(shape.width, spot[1] + by + 1))]


def whole_mask(shape):
    """The mask of all spots."""
    return (1 << area_of(shape)) - 1


def mask_of(shape, lot):
    """The mask of these spots."""
    return sum([1 << number_of(shape, 0, spot) for spot in lot])


def mask_of_blocks(shape, blocks):
    """The mask of the spots of blocks that share none."""
    return mask_of(shape, [spot for block in blocks for spot in spots_of(shape, block)])


def spots_in(shape, mask):
    """The spots, ascending, of a mask."""
    return [spot_at(shape, at) for at in numbers_in(mask)]


def near_masks(shape, reach):
    """For each spot, row by row, the mask of those that have to be safe ahead of it."""
    return [mask_of(shape, nearby(shape, reach, spot_at(shape, at))) for at in range(area_of(shape))]


def safe_behind(shape, nears, renewed, ahead):
    """The mask of what is safe in a piece, by the masks of what is renewed in it and of what was safe ahead of it."""
    if shape.low == shape.high:
        return whole_mask(shape)
    return renewed | sum([1 << at for at, near in enumerate(nears) if near & ahead == near])


def safe_masks(shape, reach, renewals):
    """For each piece the mask of the spots that are safe in it."""
    nears = near_masks(shape, reach)
    found = []
    ahead = 0
    for renewal in renewals:
        ahead = safe_behind(shape, nears, mask_of_blocks(shape, renewal), ahead)
        found.append(ahead)
    return found


def choices_of(shape, most):
    """The renewals of as many cells as can be, up to most: each other one renews less than one of these."""
    cells = sorted(cells_of(shape))
    masks = [mask for mask in range(1 << len(cells)) if many_in(mask) == min(most, len(cells))]
    return [tuple([cells[at] for at in numbers_in(mask)]) for mask in masks]


def ways_to_lots(shape, reach, pictures, most):
    """For each piece the greatest masks of what can be safe in it, with the renewals by which it is."""
    nears = near_masks(shape, reach)
    choices = [(renewal, mask_of_blocks(shape, renewal)) for renewal in choices_of(shape, most)]
    layers = []
    ways = {0: ()}
    for _ in range(pictures):
        found = {}
        for ahead, told in ways.items():
            for renewal, mask in choices:
                found[safe_behind(shape, nears, mask, ahead)] = told + (renewal,)
        ways = {mask: told for mask, told in found.items()
                if not any([other != mask and other & mask == mask for other in list(found)])}
        layers.append(ways)
    return layers


def are_alike_but_for_levels(stretch, other):
    """Whether two stretches have as many pieces, with all the same but for the levels."""
    if len(stretch) != len(other):
        return False
    for (head, telling, sources), (head_there, telling_there, sources_there) in zip(stretch, other):
        if head != head_there or sources != sources_there or len(telling) != len(telling_there):
            return False
        for (block, choice), (block_there, choice_there) in zip(telling, telling_there):
            # The last item of a choice is its levels; "still", which has none, is the only one without others.
            if block != block_there or choice[:-1] != choice_there[:-1]:
                return False
    return True


def shown_along(shape, losses, planes, loop):
    """The planes that are shown, each sample guessed from what was shown, with the loop, or from the plane ahead."""
    shown = [flat_samples(planes[0])]
    for at, loss in enumerate(losses):
        ahead = shown[-1]
        guesses = ahead if loop else flat_samples(planes[at])
        levels = [level_for(sample - guess, loss) for sample, guess in zip(flat_samples(planes[at + 1]), guesses)]
        shown.append([clipped(sample + level * step_of(loss), shape.low, shape.high)
                      for sample, level in zip(ahead, levels)])
    return planes_from(shape, shown)


def drifts(shape, losses):
    """As drift, for what was looked at."""
    return [min(shape.high - shape.low, sum(losses[:at])) for at in range(len(losses) + 1)]
