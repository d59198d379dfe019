"""Looks: at which samples of the references a sample looks, on which it hangs, and what it means."""

from pricedreels.grids import check_shape
from pricedreels.rows import Net, check_row, check_stands, row_shown
from pricedreels.rules import area_of, number_of, numbers_in
from pricedreels.stretches import check_spot, spot_at
from pricedreels.tellings import check_references

MOST_STANDS = 4096


def row_play(shape, row, references):
    """The plane that the row shows."""
    check_shape(shape)
    check_row(shape, row)
    check_references(row[0][0], shape, references)
    return row_shown(shape, row, references)


def row_looks(shape, row, spot):
    """The spots of references at which the sample looks."""
    check_seen(shape, row, spot)
    net = Net(shape, row)
    return tuple([place_of_number(shape, at) for at in numbers_in(net.masks[net.base + number_of(shape, 0, spot)])])


def hangs_on(shape, row, spot):
    """The spots of references on which the sample hangs."""
    check_seen(shape, row, spot)
    places, _ = hung(shape, row, spot)
    return tuple([place_of_number(shape, at) for at in places])


def meaning(shape, row, spot):
    """The spots of references on which the sample hangs, and the least stands for each number above low."""
    check_seen(shape, row, spot)
    places, values = hung(shape, row, spot)
    many = shape.high - shape.low + 1
    strides = strides_of(many, len(places))
    steps = [[] for _ in range(many - 1)]
    for index, value in enumerate(values):
        digits = [index // stride % many for stride in strides]
        lower = [values[index - stride] for digit, stride in zip(digits, strides) if digit > 0]
        # No sample falls when others rise, so all lesser stands show less if those do that are less by one.
        for number in range(max([shape.low] + lower), value):
            steps[number - shape.low].append(tuple([shape.low + digit for digit in digits]))
    return tuple([place_of_number(shape, at) for at in places]), tuple([tuple(stands) for stands in steps])


def check_seen(shape, row, spot):
    check_shape(shape)
    check_row(shape, row)
    check_spot(shape, spot)


def place_of_number(shape, at):
    """The spot of references of the sample of this number."""
    return (at // area_of(shape),) + spot_at(shape, at % area_of(shape))


def strides_of(many, places):
    """By how much an index rises, for each of so many places, when the number there rises by one of many."""
    found = []
    stride = 1
    for _ in range(places):
        found.append(stride)
        stride = stride * many
    return found[::-1]


def hung(shape, row, spot):
    """The numbers of the samples on which the sample hangs, and its values over all ways in which they can stand."""
    net = Net(shape, row)
    number = net.base + number_of(shape, 0, spot)
    check_stands(shape, net.masks[number], MOST_STANDS)
    values = net.table(number)
    many = shape.high - shape.low + 1
    seen = numbers_in(net.masks[number])
    strides = strides_of(many, len(seen))
    hanging = [stride for stride in strides if any([
        index // stride % many < many - 1 and value != values[index + stride] for index, value in enumerate(values)])]
    kept = [index for index in range(len(values))
            if all([index // stride % many == 0 for stride in strides if stride not in hanging])]
    return [at for at, stride in zip(seen, strides) if stride in hanging], [values[index] for index in kept]
