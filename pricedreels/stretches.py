"""Stretches: pieces that are played one behind the other, each from planes of a store."""

from pricedreels.checks import is_tuple_of, is_within
from pricedreels.errors import BadIndex, BadMemory, BadSpot, BadStore, BadStretch
from pricedreels.grids import check_shape, fits_shape
from pricedreels.heads import Head
from pricedreels.lifts import in_rows
from pricedreels.rules import area_of, flat_samples, rules_of, run_rules
from pricedreels.tellings import is_telling_of

MOST_MEMORY = 4
MOST_PIECES = 12


def check_memory(memory):
    if not is_within(memory, 1, MOST_MEMORY):
        raise BadMemory("a memory is a number from 1 to 4")


def check_pieces(shape, memory, stretch):
    if not isinstance(stretch, (list, tuple)) or not 1 <= len(stretch) <= MOST_PIECES:
        raise BadStretch(None)
    for at, piece in enumerate(stretch):
        if not is_piece(shape, memory, piece):
            raise BadStretch(at)


def check_stretch(shape, memory, stretch):
    check_shape(shape)
    check_memory(memory)
    check_pieces(shape, memory, stretch)


def check_store(shape, memory, store):
    if not isinstance(store, (list, tuple)) or len(store) != memory:
        raise BadStore(None)
    for at, plane in enumerate(store):
        if not fits_shape(shape, plane):
            raise BadStore(at)


def check_index(stretch, index):
    if not is_within(index, 0, len(stretch) - 1):
        raise BadIndex("an index is one of a piece")


def check_spot(shape, spot):
    if not is_spot(shape, spot):
        raise BadSpot("a spot is a pair of a row and a column of the shape")


def is_spot(shape, thing):
    """Whether any value is a spot of the shape."""
    return (is_tuple_of(thing, 2) and is_within(thing[0], 0, shape.height - 1)
            and is_within(thing[1], 0, shape.width - 1))


def is_piece(shape, memory, thing):
    """Whether any value is a piece of a stretch with this memory."""
    if not is_tuple_of(thing, 3) or not isinstance(thing[0], Head):
        return False
    head, telling, sources = thing
    return (is_telling_of(head, shape, telling) and is_tuple_of(sources, head.kind)
            and all([is_within(source, 0, memory - 1) for source in sources]))


def is_store_of(shape, memory, thing):
    """Whether any value is a store."""
    return (isinstance(thing, (list, tuple)) and len(thing) == memory
            and all([fits_shape(shape, plane) for plane in thing]))


def is_stretch_of(shape, memory, thing):
    """Whether any value is a stretch."""
    return (isinstance(thing, (list, tuple)) and 1 <= len(thing) <= MOST_PIECES
            and all([is_piece(shape, memory, piece) for piece in thing]))


def runs_of(shape, stretch):
    """For each piece its sources and its rules."""
    return [(sources, rules_of(head, shape, telling)) for head, telling, sources in stretch]


def run_pieces(shape, runs, planes):
    """The samples that are shown, piece by piece, and those of the store behind; planes are the samples of a store."""
    shown = []
    for sources, rules in runs:
        samples = run_rules(shape, rules, [planes[source] for source in sources])
        shown.append(samples)
        planes = [samples] + planes[:-1]
    return shown, planes


def run_with_lost(shape, runs, planes, lost, number):
    """The samples that are shown, piece by piece, if each lost piece shows the number everywhere."""
    shown = []
    for index, (sources, rules) in enumerate(runs):
        if index in lost:
            samples = [number] * area_of(shape)
        else:
            samples = run_rules(shape, rules, [planes[source] for source in sources])
        shown.append(samples)
        planes = [samples] + planes[:-1]
    return shown


def samples_of(store):
    """The samples of each plane of a store."""
    return [flat_samples(plane) for plane in store]


def planes_from(shape, rows):
    """The planes with these samples."""
    return [in_rows(samples, shape.width) for samples in rows]


def flat_store(shape, memory, number):
    """The samples of the store with the number everywhere."""
    return [[number] * area_of(shape) for _ in range(memory)]


def spot_at(shape, at):
    """The spot of the sample of this number of a plane."""
    return at // shape.width, at % shape.width


def where_equal(shape, samples, others):
    """The spots, ascending, at which two planes have the same sample."""
    return [spot_at(shape, at) for at, (one, other) in enumerate(zip(samples, others)) if one == other]
