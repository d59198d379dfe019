"""Rules: from which samples each sample that a telling shows comes, and how.

Samples have numbers: those of the references come first, one reference behind
the other, row by row, and behind them those of the picture itself.
"""

from pricedreels.checks import clipped
from pricedreels.copies import spots_between
from pricedreels.grids import spots_of
from pricedreels.guesses import left_edge, upper_edge
from pricedreels.losses import step_of
from pricedreels.tellings import STILL_VECTOR, last_behind, rests_by


def area_of(shape):
    """How many samples a plane has."""
    return shape.height * shape.width


def flat_samples(plane):
    """The samples of a plane, row by row."""
    return [number for row in plane for number in row]


def number_of(shape, part, spot):
    """The number of the sample at the spot of a reference, or of the picture if part is the kind."""
    return part * area_of(shape) + spot[0] * shape.width + spot[1]


def groups_of(kind, shape, block, start, spot):
    """The groups of the numbers of the samples at which the guess of the spot looks.

    start is the beginning of a choice, but not of "still". The guess is the
    mean of the means of one or two groups, the middle one of three, and that
    of the shape without a group.
    """
    top, left, _ = block
    y, x = spot
    if start[0] == "copy":
        return (copied_group(shape, start[1], spot, start[2]),)
    if start[0] == "both":
        dy, dx = start[1]
        return copied_group(shape, 0, spot, (dy, dx)), copied_group(shape, 1, spot, (-dy, -dx))
    if start[0] == "mean":
        edge = upper_edge(shape, block) + left_edge(shape, block)
        return (tuple([number_of(shape, kind, other) for other in edge]),)
    looked = {"left": [(y, left - 1)], "up": [(top - 1, x)],
              "middle": [(y, left - 1), (top - 1, x), (top - 1, left - 1)]}.get(start[0], [])
    return tuple([(number_of(shape, kind, other),) for other in looked])


def copied_group(shape, reference, spot, vector):
    """The numbers of the samples of the reference from which the copy at the spot is made."""
    y, x = 2 * spot[0] + vector[0], 2 * spot[1] + vector[1]
    return tuple([number_of(shape, reference, other) for other in spots_between(shape, y, x)])


def start_of(choice, last):
    """The beginning of a choice, that of the copy by the last vector for "still"."""
    if choice[0] == "still":
        return ("copy", 0, last)
    return choice[:-2]


def rules_by_blocks(head, shape, telling):
    """The rules of the samples of each block, in the order of telling: triples of number, groups and rest."""
    last = STILL_VECTOR
    found = []
    for block, choice in telling:
        start = start_of(choice, last)
        rests = rests_by(shape, block, choice, step_of(head.loss))
        found.append([(number_of(shape, head.kind, spot), groups_of(head.kind, shape, block, start, spot), rest)
                      for spot, rest in zip(spots_of(shape, block), rests)])
        last = last_behind(choice, last)
    return found


def rules_of(head, shape, telling):
    """The rules of all samples, in the order in which they are told."""
    return [rule for rules in rules_by_blocks(head, shape, telling) for rule in rules]


def guess_from(shape, groups, numbers):
    """The guess that is made of the numbers of samples by the groups."""
    means = [sum([numbers[at] for at in group]) // len(group) for group in groups]
    if len(means) == 3:
        return sorted(means)[1]
    return sum(means) // len(means) if means else shape.middle


def sample_from(shape, groups, rest, numbers):
    """The sample that is shown by the groups and the rest."""
    return clipped(guess_from(shape, groups, numbers) + rest, shape.low, shape.high)


def run_rules(shape, rules, references):
    """The samples that come of the rules, row by row; so are those of the references."""
    numbers = [number for samples in references for number in samples]
    start = len(numbers)
    numbers.extend([shape.low] * area_of(shape))
    for at, groups, rest in rules:
        numbers[at] = sample_from(shape, groups, rest, numbers)
    return numbers[start:]


def looked_by(rules, references):
    """For each sample, row by row, at what it looks, as a mask; so are those of the references."""
    masks = [mask for samples in references for mask in samples]
    start = len(masks)
    masks.extend([0] * len(rules))
    for at, groups, _ in rules:
        masks[at] = looked_in(groups, masks)
    return masks[start:]


def looked_in(groups, masks):
    """At what the groups look together."""
    found = 0
    for group in groups:
        for at in group:
            found |= masks[at]
    return found


def single_masks(many, first):
    """The masks of many things, numbered from the first one on."""
    return [1 << number for number in range(first, first + many)]


def numbers_in(mask):
    """The numbers, ascending, of what is in the mask."""
    signs = f"{mask:b}"[::-1]
    return [number for number, sign in enumerate(signs) if sign == "1"]


def many_in(mask):
    """How many things are in the mask."""
    return f"{mask:b}".count("1")
