"""Rows: pictures told one behind the other, as functions of the references of the first one."""

from pricedreels.checks import is_tuple_of
from pricedreels.errors import BadRow, TooMany
from pricedreels.heads import Head
from pricedreels.rules import area_of, looked_in, many_in, numbers_in, rules_of, sample_from, single_masks
from pricedreels.tellings import is_telling_of, played

MOST_PAIRS = 3


def check_row(shape, row):
    if not isinstance(row, (list, tuple)) or not 1 <= len(row) <= MOST_PAIRS:
        raise BadRow("a row is a list of one to three pairs")
    if not all([is_pair_of(shape, pair) for pair in row]):
        raise BadRow("a pair is a head and a telling of it and the shape")
    if len(row) > 1 and not all([head.kind == 1 for head, _ in row]):
        raise BadRow("of several pairs all heads have the kind 1")


def is_pair_of(shape, thing):
    """Whether any value is a pair of a head and a telling of it and the shape."""
    return is_tuple_of(thing, 2) and isinstance(thing[0], Head) and is_telling_of(thing[0], shape, thing[1])


def row_shown(shape, row, references):
    """The plane that the row shows."""
    planes = list(references)
    for head, telling in row:
        planes = [played(head, shape, telling, planes)[0]]
    return planes[0]


def check_stands(shape, mask, most):
    """TooMany if the samples of a mask can stand in more ways than that."""
    values = shape.high - shape.low + 1
    ways = 1
    for _ in range(many_in(mask)):
        ways = ways * values
        # With one value alone there is one way, however many samples there are.
        if ways > most:
            raise TooMany(most)


class Net:
    """The samples of a row, each with what it looks at and what it is for all references.

    Samples have numbers: those of the references come first, then those of one
    picture behind the other. A table has the values of a sample, over all ways
    in which the samples of references at which it looks can stand, ascending.
    """

    def __init__(self, shape, row):
        area = area_of(shape)
        self.shape = shape
        self.kind = row[0][0].kind
        self.base = (self.kind + len(row) - 1) * area
        self.masks = single_masks(self.kind * area, 0) + [0] * (len(row) * area)
        self.rules = {}
        self.tables = {}
        for at, (head, telling) in enumerate(row):
            # The references of each pair but the first are what the pair ahead shows.
            behind = at * area
            for number, groups, rest in rules_of(head, shape, telling):
                moved = tuple([tuple([behind + other for other in group]) for group in groups])
                self.rules[behind + number] = (moved, rest)
                self.masks[behind + number] = looked_in(moved, self.masks)

    def needed(self, number):
        """The numbers of the samples without a table which the sample needs, itself among them, in their order."""
        found = {number: True}
        waiting = [number]
        while len(waiting) > 0:
            for group in self.rules.get(waiting.pop(), ((), 0))[0]:
                for other in group:
                    if other not in found and other not in self.tables:
                        found[other] = True
                        waiting.append(other)
        told = [other for other in self.rules if other in found]
        return [other for other in sorted(list(found)) if other not in self.rules] + told

    def table(self, number):
        """The values of the sample, over all ways in which what it looks at can stand."""
        if number not in self.tables:
            for other in self.needed(number):
                if other in self.rules:
                    groups, rest = self.rules[other]
                    self.tables[other] = self.values_by(groups, rest, self.masks[other])
                else:
                    self.tables[other] = list(range(self.shape.low, self.shape.high + 1))
        return self.tables[number]

    def values_by(self, groups, rest, mask):
        """The values of what the groups and the rest make of samples, over all ways in which the mask can stand."""
        members = sorted({other for group in groups for other in group})
        places = tuple([tuple([members.index(other) for other in group]) for group in groups])
        columns = [self.spread(other, mask) for other in members]
        if columns == []:
            return [sample_from(self.shape, (), rest, ())] * len(self.indexes(0, mask))
        return [sample_from(self.shape, places, rest, line) for line in zip(*columns)]

    def indexes(self, own, mask):
        """The indexes in a table over its own mask, over all ways in which the whole mask can stand."""
        many = self.shape.high - self.shape.low + 1
        found = [0]
        for at in numbers_in(mask):
            if own & (1 << at) > 0:
                found = [many * index + step for index in found for step in range(many)]
            else:
                found = [index for index in found for _ in range(many)]
        return found

    def spread(self, number, mask):
        """The values of the sample, over all ways in which the mask, which has what it looks at, can stand."""
        table = self.table(number)
        return [table[index] for index in self.indexes(self.masks[number], mask)]
