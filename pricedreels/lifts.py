"""Lifts: rectangles told by a mean and by differences of halves, and undone exactly."""

from pricedreels.checks import is_rows, is_within
from pricedreels.errors import BadRectangle, BadSize, BadSpans, BadSpot, BadUpper
from pricedreels.losses import check_loss


def areas(height, width):
    """The areas: the whole one, and the halves of each inner one behind all that stand ahead."""
    check_size(height, width)
    return list_areas(height, width)


def is_rectangle(thing):
    """Whether any value is a rectangle."""
    return is_rows(thing)


def lifted(rectangle):
    """The rectangle in which the lifted numbers of this one stand."""
    check_rectangle(rectangle)
    all_areas = list_areas(len(rectangle), len(rectangle[0]))
    means = [0] * len(all_areas)
    differences = []
    inner = len(all_areas) // 2
    for at in reversed(range(len(all_areas))):
        if is_inner(all_areas[at]):
            first, second = halves_at(inner)
            means[at] = (means[first] + means[second]) // 2
            differences.append(means[second] - means[first])
            inner -= 1
        else:
            top, left, _, _ = all_areas[at]
            means[at] = rectangle[top][left]
    return in_rows([means[0]] + differences[::-1], len(rectangle[0]))


def unlifted(rectangle):
    """The rectangle whose lifted numbers stand in this one."""
    check_rectangle(rectangle)
    return lowest(rectangle, rectangle)


def lift_spans(lows, highs):
    """The least and the greatest number of each spot, over all lifted numbers within the bounds."""
    check_spans(lows, highs)
    return lowest(lows, highs), lowest(highs, lows)


def lift_end(lows, highs, y, x, upper):
    """A rectangle with lifted numbers within the bounds, and the greatest or least number at the spot."""
    check_spans(lows, highs)
    check_spot(len(lows), len(lows[0]), y, x)
    if not isinstance(upper, bool):
        raise BadUpper("upper is True or False")
    if upper:
        return end_at(highs, lows, y, x)
    return end_at(lows, highs, y, x)


def lift_errors(height, width, loss):
    """The greatest distance at each spot, if the lifted numbers are told with this loss."""
    check_size(height, width)
    check_loss(loss)
    inner = [area for area in list_areas(height, width) if is_inner(area)]
    depths = [sum([1 for area in inner if lies_in(area, y, x)]) for y in range(height) for x in range(width)]
    return in_rows([loss + depth * ((loss + 1) // 2) for depth in depths], width)


def worst_lift(height, width, loss, y, x):
    """A rectangle with this greatest distance at the spot."""
    check_size(height, width)
    check_loss(loss)
    check_spot(height, width, y, x)
    # Numbers up to the loss have the level 0, so what is told of them is nowhere but 0.
    return end_at(((loss,) * width,) * height, ((-loss,) * width,) * height, y, x)


def check_size(height, width):
    if not is_within(height, 1, 16) or not is_within(width, 1, 16):
        raise BadSize("heights and widths are numbers from 1 to 16")


def check_rectangle(rectangle):
    if not is_rows(rectangle):
        raise BadRectangle("a rectangle is a tuple of rows of numbers, all of the same length")


def check_spans(lows, highs):
    check_rectangle(lows)
    if not is_rows(highs) or len(highs) != len(lows) or len(highs[0]) != len(lows[0]):
        raise BadSpans("the upper bounds are a rectangle like that of the lower ones")
    for row, others in zip(lows, highs):
        for low, high in zip(row, others):
            if high < low:
                raise BadSpans("no upper bound is below the lower one")


def check_spot(height, width, y, x):
    if not is_within(y, 0, height - 1) or not is_within(x, 0, width - 1):
        raise BadSpot("a spot is a pair of a row and a column")


def is_inner(area):
    """Whether the area has more than one spot."""
    return area[2] * area[3] > 1


def halves(area):
    """The first and the second half of an inner area."""
    top, left, height, width = area
    if height >= width:
        many = (height + 1) // 2
        return [(top, left, many, width), (top + many, left, height - many, width)]
    many = (width + 1) // 2
    return [(top, left, height, many), (top, left + many, height, width - many)]


def halves_at(inner):
    """Where the halves of the inner area of this number stand in the list of areas."""
    return 2 * inner - 1, 2 * inner


def list_areas(height, width):
    """As areas, for numbers that were looked at."""
    found = [(0, 0, height, width)]
    at = 0
    while at < len(found):
        area = found[at]
        if is_inner(area):
            found.extend(halves(area))
        at += 1
    return found


def lies_in(area, y, x):
    """Whether the spot lies in the area."""
    top, left, height, width = area
    return top <= y < top + height and left <= x < left + width


def in_rows(numbers, width):
    """The numbers, in rows of this width."""
    return tuple([tuple(numbers[at:at + width]) for at in range(0, len(numbers), width)])


def lowest(lows, highs):
    """The least number of each spot, each lifted number being from lows to highs.

    The first half's mean falls, and the second half's rises, as the difference
    rises; so with lows and highs exchanged these are the greatest numbers, and
    with both the same the numbers themselves.
    """
    height, width = len(lows), len(lows[0])
    least = [number for row in lows for number in row]
    greatest = [number for row in highs for number in row]
    all_areas = list_areas(height, width)
    means = [least[0]] * len(all_areas)
    rows = [[0] * width for _ in range(height)]
    inner = 0
    for at, area in enumerate(all_areas):
        if is_inner(area):
            inner += 1
            first, second = halves_at(inner)
            means[first] = means[at] - greatest[inner] // 2
            means[second] = means[at] + least[inner] - least[inner] // 2
        else:
            rows[area[0]][area[1]] = means[at]
    return tuple([tuple(row) for row in rows])


def end_at(lows, highs, y, x):
    """The rectangle that has at the spot what lowest has there."""
    width = len(lows[0])
    most = [number for row in highs for number in row]
    numbers = [number for row in lows for number in row]
    inner = 0
    for area in list_areas(len(lows), width):
        if is_inner(area):
            inner += 1
            if lies_in(halves(area)[0], y, x):
                numbers[inner] = most[inner]
    chosen = in_rows(numbers, width)
    return lowest(chosen, chosen)
