"""Likeness: whether rows show the same for all references, and in how few bits one frame does so."""

from pricedreels.checks import clipped, is_prices_for, is_tuple_of, is_within
from pricedreels.copies import is_vector, vectors_of
from pricedreels.errors import OtherKinds
from pricedreels.fewest import (START, check_lossless, check_many, is_undercut_by_none, nodes_of, offers_of, prices_by,
                                reach_of, telling_by)
from pricedreels.grids import blocks_at, cells_of, check_shape, fits_shape, place_and_end, spots_of
from pricedreels.lifts import in_rows
from pricedreels.looks import MOST_STANDS, strides_of
from pricedreels.losses import levels_that
from pricedreels.rows import Net, check_row, check_stands, row_shown
from pricedreels.rules import area_of, groups_of, looked_in, number_of, numbers_in, start_of
from pricedreels.stretches import is_spot, spot_at
from pricedreels.tellings import (STILL_VECTOR, bits_told, is_telling_of, last_behind, lift_rests, modes_for, rests_by)

MOST_WAYS = 256


def alike(shape, one, other):
    """Whether both rows show the same for all references."""
    check_both(shape, one, other)
    return all([values == others for values, others in tables_of(shape, one, other)])


def parting(shape, one, other):
    """The first spot at which references part the rows, and the first of these; None if the rows are alike."""
    check_both(shape, one, other)
    tables = tables_of(shape, one, other)
    unlike = [at for at, (values, others) in enumerate(tables) if values != others]
    if unlike == []:
        return None
    at = unlike[0]
    index = [values != others for values, others in zip(tables[at][0], tables[at][1])].index(True)
    seen = numbers_in(seen_by_both(shape, Net(shape, one), Net(shape, other))[at])
    many = shape.high - shape.low + 1
    samples = [shape.low] * (one[0][0].kind * area_of(shape))
    for number, stride in zip(seen, strides_of(many, len(seen))):
        samples[number] += index // stride % many
    area = area_of(shape)
    return spot_at(shape, at), [in_rows(samples[start:start + area], shape.width)
                                for start in range(0, len(samples), area)]


def is_parting(shape, one, other, thing):
    """Whether any value is a spot, and references with which the rows show unlike samples there."""
    check_rows(shape, one, other)
    if not is_tuple_of(thing, 2) or not is_spot(shape, thing[0]):
        return False
    (y, x), references = thing
    if not isinstance(references, (list, tuple)) or len(references) != one[0][0].kind:
        return False
    if not all([fits_shape(shape, plane) for plane in references]):
        return False
    return row_shown(shape, one, references)[y][x] != row_shown(shape, other, references)[y][x]


def apart(shape, one, other):
    """The greatest number by which the samples of both rows at one spot are apart, with the same references."""
    check_both(shape, one, other)
    return max([max([abs(value - there) for value, there in zip(values, others)])
                for values, others in tables_of(shape, one, other)])


def fewest_like(head, shape, row):
    """A telling that is like the row and fits always, with as few bits as any; None if there is none."""
    menu = likener_of(head, shape, row).menu()
    found = prices_by(head, shape, offers_of(head, shape, menu))
    return telling_by(head, menu, found) if START in found else None


def like_prices(head, shape, row):
    """The dict from all live nodes to the least cost of a way from there to the end, None if the start is not live."""
    found = prices_by(head, shape, offers_of(head, shape, likener_of(head, shape, row).menu()))
    return {node: found[node] for node in nodes_of(head, shape) if node in found} if START in found else None


def is_like_prices(head, shape, row, thing):
    """Whether any value is a dict from all live nodes to numbers that no common step undercuts."""
    return are_like_prices(head, shape, likener_of(head, shape, row), thing)


def is_fewest_like(head, shape, row, telling, thing):
    """Whether two values are a telling that is like the row and fits always, and prices that it meets."""
    likener = likener_of(head, shape, row)
    return (is_telling_of(head, shape, telling) and likener.is_like(telling)
            and are_like_prices(head, shape, likener, thing) and len(bits_told(head, telling)) == thing[START])


def strand(head, shape, row):
    """The fewest nodes, the start among them, from which common steps lead to one another alone; None if none are."""
    offers = offers_of(head, shape, likener_of(head, shape, row).menu())
    found = {START: True}
    waiting = [START]
    while len(waiting) > 0:
        for _, _, behind in offers[waiting.pop()]:
            if behind not in offers:
                return None
            if behind not in found:
                found[behind] = True
                waiting.append(behind)
    return tuple(sorted(list(found)))


def is_strand(head, shape, row, thing):
    """Whether any value is a strand."""
    likener = likener_of(head, shape, row)
    if not isinstance(thing, tuple) or not all([is_node(head, shape, node) for node in thing]):
        return False
    if START not in thing or not all([one < other for one, other in zip(thing, thing[1:])]):
        return False
    offers = offers_of(head, shape, likener.menu())
    chosen = {node: True for node in thing}
    return all([behind in chosen for node in thing for _, _, behind in offers[node]])


def check_rows(shape, one, other):
    check_shape(shape)
    check_row(shape, one)
    check_row(shape, other)
    if one[0][0].kind != other[0][0].kind:
        raise OtherKinds("the kinds of both rows are equal")


def check_both(shape, one, other):
    check_rows(shape, one, other)
    for mask in seen_by_both(shape, Net(shape, one), Net(shape, other)):
        check_stands(shape, mask, MOST_STANDS)


def likener_of(head, shape, row):
    """What finds the tellings of the head that are like the row."""
    check_lossless(head)
    check_shape(shape)
    check_row(shape, row)
    if head.kind != row[0][0].kind:
        raise OtherKinds("the kind of the head is that of the row")
    check_many(head, shape)
    likener = Likener(head, shape, row)
    likener.check_ways()
    return likener


def is_node(head, shape, thing):
    """Whether any value is a node."""
    return (is_tuple_of(thing, 2) and is_within(thing[0], 0, len(cells_of(shape)) - 1)
            and is_vector(thing[1], reach_of(head)))


def seen_by_both(shape, net, other):
    """For each spot, row by row, the mask of all at which the sample of one net or of the other looks."""
    return [net.masks[net.base + at] | other.masks[other.base + at] for at in range(area_of(shape))]


def tables_of(shape, one, other):
    """For each spot, row by row, the values that both rows show, over all ways in which what they look at can stand."""
    net, there = Net(shape, one), Net(shape, other)
    return [(net.spread(net.base + at, mask), there.spread(there.base + at, mask))
            for at, mask in enumerate(seen_by_both(shape, net, there))]


def are_like_prices(head, shape, likener, thing):
    """As is_like_prices, for what was looked at."""
    offers = offers_of(head, shape, likener.menu())
    found = prices_by(head, shape, offers)
    nodes = [node for node in nodes_of(head, shape) if node in found]
    return START in found and is_prices_for(thing, nodes) and is_undercut_by_none(offers, nodes, thing)


class Likener:
    """What finds the choices that show, for all references, what a row shows."""

    def __init__(self, head, shape, row):
        self.head = head
        self.shape = shape
        self.net = Net(shape, row)
        self.seen = {}

    def groups(self, block, start, spot):
        """The groups by which the guess of the spot looks at samples of the net, what the row shows standing ahead."""
        first = self.net.kind * area_of(self.shape)
        return tuple([tuple([at if at < first else at - first + self.net.base for at in group])
                      for group in groups_of(self.net.kind, self.shape, block, start, spot)])

    def starts(self, block):
        """The beginnings of all choices for the block, in their order, but for "still"."""
        vectors = vectors_of(self.head.reach)
        found = []
        for mode in modes_for(self.head, block):
            if mode == "copy":
                found.extend([(mode, at, vector) for at in range(self.head.kind) for vector in vectors])
            elif mode == "both":
                found.extend([(mode, vector) for vector in vectors])
            elif mode != "still":
                found.append((mode,))
        return found

    def still_starts(self, block):
        """The beginnings of the choices that guess what "still" does, by the vectors that can be the last one."""
        if "still" not in modes_for(self.head, block):
            return []
        return [("copy", 0, vector) for vector in vectors_of(self.head.reach)]

    def mask(self, spot, groups):
        """What the sample of the row at the spot and the guess look at together."""
        return self.net.masks[self.number(spot)] | looked_in(groups, self.net.masks)

    def number(self, spot):
        """The number of the sample that the row shows at the spot."""
        return self.net.base + number_of(self.shape, 0, spot)

    def check_ways(self):
        """TooMany if a guess, and what the row shows at its spot, hang on too much to be tried."""
        for place in range(len(cells_of(self.shape))):
            for block in blocks_at(self.shape, place):
                for start in self.starts(block) + self.still_starts(block):
                    for spot in spots_of(self.shape, block):
                        check_stands(self.shape, self.mask(spot, self.groups(block, start, spot)), MOST_WAYS)

    def pairs(self, spot, groups):
        """The pairs of the guess and of what the row shows at the spot, over all references."""
        if (spot, groups) not in self.seen:
            mask = self.mask(spot, groups)
            guesses = self.net.values_by(groups, 0, mask)
            samples = self.net.spread(self.number(spot), mask)
            self.seen[(spot, groups)] = sorted({pair for pair in zip(guesses, samples)})
        return self.seen[(spot, groups)]

    def pairs_at(self, block, start):
        """The pairs of each spot of the block."""
        return [self.pairs(spot, self.groups(block, start, spot)) for spot in spots_of(self.shape, block)]

    def choices(self, block):
        """The choices of common steps for the block, all but "still"."""
        found = []
        for start in self.starts(block):
            pairs = self.pairs_at(block, start)
            rests = [constant_rest(some) for some in pairs]
            levels = [common_level(self.shape, some) for some in pairs]
            if not any([rest != 0 for rest in rests]):
                found.append(start + ("none", ()))
            if None not in levels:
                found.append(start + ("plain", tuple(levels)))
            if None not in rests:
                found.append(start + ("lifted", tuple(lift_rests(self.shape, block, rests))))
        return found

    def menu(self):
        """The entries of the blocks of each place: block, end, choices, and the vectors by which it is still."""
        found = []
        for place in range(len(cells_of(self.shape))):
            entries = []
            for block in blocks_at(self.shape, place):
                stills = [start[2] for start in self.still_starts(block)
                          if all([constant_rest(some) == 0 for some in self.pairs_at(block, start)])]
                entries.append((block, place_and_end(self.shape, block)[1], self.choices(block), stills))
            found.append(entries)
        return found

    def is_like(self, telling):
        """Whether the telling is like the row and fits always."""
        last = STILL_VECTOR
        for block, choice in telling:
            rests = rests_by(self.shape, block, choice, 1)
            for pairs, rest in zip(self.pairs_at(block, start_of(choice, last)), rests):
                for guess, sample in pairs:
                    if not shows(self.shape, choice, guess + rest, sample):
                        return False
            last = last_behind(choice, last)
        return True


def shows(shape, choice, number, sample):
    """Whether the sample is shown where a guess and a rest make this number, with nothing clipped if it is lifted."""
    return number == sample if choice[-2:-1] == ("lifted",) else clipped(number, shape.low, shape.high) == sample


def constant_rest(pairs):
    """The rest of all samples and their guesses, None if it is not always the same."""
    rests = [sample - guess for guess, sample in pairs]
    return rests[0] if min(rests) == max(rests) else None


def common_level(shape, pairs):
    """The level nearest to 0 that makes all samples of their guesses, None if there is none."""
    spans = [levels_that(shape, guess, sample, 0) for guess, sample in pairs]
    least = max([low for low, _ in spans])
    greatest = min([high for _, high in spans])
    return clipped(0, least, greatest) if least <= greatest else None
