"""The fewest bits in which a picture is told, shown by prices, and tellings that are made at once."""

from pricedreels.checks import is_prices_for, is_within
from pricedreels.choices import (choice_cost, fixed_cost, guesses_at, moved_guesses, samples_at, still_guesses,
                                 vector_cost)
from pricedreels.copies import is_vector, vectors_of
from pricedreels.errors import BadHead, BadPlace, BadVector, TooMany
from pricedreels.grids import blocks_at, cells_of, check_plane, check_shape, place_and_end, quarters_of, roots_of
from pricedreels.heads import Head, check_head, words_of
from pricedreels.losses import level_for, step_of
from pricedreels.tellings import (STILL_VECTOR, bits_told, check_references, check_telling, last_behind, lift_rests,
                                  played, quarter_bits, show_block, vector_of)

MOST_STEPS = 40000
MANY_GRADES = 8
START = (0, STILL_VECTOR)


def steps_from(head, shape, plane, references, place, vector):
    """All bare steps from a node, in their order, as triples of the block, the choice and the cost."""
    check_picture(head, shape, plane, references)
    if not is_within(place, 0, len(cells_of(shape)) - 1):
        raise BadPlace("a place is the index of a cell")
    if not is_vector(vector, reach_of(head)):
        raise BadVector("the vector of a node is one within reach")
    check_many(head, shape)
    table = moved_guesses(head, shape, references)
    entries = [entry_of(head, shape, plane, table, block) for block in blocks_at(shape, place)]
    return steps_at(head, words_of(head.book), entries, vector)


def fewest(head, shape, plane, references):
    """A telling that fits and shows the plane, with as few bits as any."""
    check_all(head, shape, plane, references)
    return fewest_of(head, shape, plane, references)


def prices(head, shape, plane, references):
    """The dict from all nodes to the least cost of a way from there to the end."""
    check_all(head, shape, plane, references)
    found = prices_by(head, shape, offers_of(head, shape, menu_of(head, shape, plane, references)))
    return {node: found[node] for node in nodes_of(head, shape)}


def is_prices(head, shape, plane, references, thing):
    """Whether any value is a dict from all nodes to numbers that no bare step undercuts."""
    check_all(head, shape, plane, references)
    return are_prices(head, shape, plane, references, thing)


def is_fewest(head, shape, plane, references, telling, thing):
    """Whether the telling fits and shows the plane, and thing are prices that it meets."""
    check_picture(head, shape, plane, references)
    check_telling(head, shape, telling)
    check_many(head, shape)
    return (played(head, shape, telling, references) == (plane, True)
            and are_prices(head, shape, plane, references, thing)
            and len(bits_told(head, telling)) == thing[START])


def many_fewest(head, shape, plane, references):
    """How many tellings of bare steps have the fewest bits."""
    check_all(head, shape, plane, references)
    offers = offers_of(head, shape, menu_of(head, shape, plane, references))
    found = prices_by(head, shape, offers)
    ways = {node: 1 for node in ends_of(head, shape)}
    for node in reversed(nodes_of(head, shape)):
        ways[node] = sum([many * ways[behind] for cost, many, behind in offers[node]
                          if cost + found[behind] == found[node]])
    return ways[START]


def best_grade(head, shape, plane, references):
    """The least number of bits over all grades, and the least grade that has it."""
    check_all(head, shape, plane, references)
    menu = menu_of(head, shape, plane, references)
    found = []
    for grade in range(MANY_GRADES):
        other = Head(head.kind, head.loss, grade, head.reach, head.book)
        found.append((prices_by(other, shape, offers_of(other, shape, menu))[START], grade))
    return min(found)


def made(head, shape, plane, references):
    """A telling that is made at once, block by block, with any loss."""
    check_head(head)
    check_shape(shape)
    check_plane(shape, plane)
    check_references(head, shape, references)
    maker = Maker(head, shape, plane, references)
    told = []
    last = STILL_VECTOR
    for root in roots_of(shape):
        _, pairs, last = maker.tell(root, last)
        told.extend(pairs)
    return tuple(told)


def check_lossless(head):
    check_head(head)
    if head.loss != 0:
        raise BadHead("loss")


def check_picture(head, shape, plane, references):
    check_lossless(head)
    check_shape(shape)
    check_plane(shape, plane)
    check_references(head, shape, references)


def check_many(head, shape):
    many = len(vectors_of(reach_of(head)))
    if len(cells_of(shape)) * many * many > MOST_STEPS:
        raise TooMany(MOST_STEPS)


def check_all(head, shape, plane, references):
    check_picture(head, shape, plane, references)
    check_many(head, shape)


def reach_of(head):
    """How far the vectors of nodes go: in the kind 0 there is no vector to keep."""
    return head.reach if head.kind > 0 else 0


def nodes_of(head, shape):
    """All nodes, ascending."""
    return [(place, vector) for place in range(len(cells_of(shape))) for vector in vectors_of(reach_of(head))]


def ends_of(head, shape):
    """The pairs of the end of the cells and any vector."""
    return [(len(cells_of(shape)), vector) for vector in vectors_of(reach_of(head))]


def bare_choices(head, shape, plane, table, block):
    """The choices of bare steps for the block, in their order, all but "still"."""
    samples = samples_at(shape, block, plane)
    found = []
    for start, guesses in guesses_at(head, shape, block, plane, table):
        rests = [sample - guess for sample, guess in zip(samples, guesses)]
        if not any(rests):
            found.append(start + ("none", ()))
        found.append(start + ("plain", tuple(rests)))
        found.append(start + ("lifted", tuple(lift_rests(shape, block, rests))))
    return found


def entry_of(head, shape, plane, table, block):
    """What can be told of a block: itself, its end, its bare choices, the vectors by which it is still."""
    samples = samples_at(shape, block, plane)
    vectors = [vector for vector in vectors_of(reach_of(head))
               if still_guesses(head, shape, block, vector, table) == samples]
    end = place_and_end(shape, block)[1]
    return block, end, bare_choices(head, shape, plane, table, block), vectors


def menu_of(head, shape, plane, references):
    """The entries of the blocks of each place."""
    table = moved_guesses(head, shape, references)
    return [[entry_of(head, shape, plane, table, block) for block in blocks_at(shape, place)]
            for place in range(len(cells_of(shape)))]


def steps_at(head, words, entries, vector):
    """The bare steps from a node with this vector, entries being those of its place."""
    found = []
    for block, _, choices, vectors in entries:
        ahead = len(quarter_bits(block))
        for choice in choices:
            found.append((block, choice, ahead + choice_cost(head, words, choice, vector)))
        if vector in vectors:
            found.append((block, ("still",), ahead + len(words["still"])))
    return found


def least_costs(head, words, choices):
    """By vectors, and None for choices without one, the least fixed cost and how many choices have it."""
    found = {}
    for choice in choices:
        cost = fixed_cost(head, words, choice)
        vector = vector_of(choice)
        least, many = found.get(vector, (cost, 0))
        if cost < least:
            found[vector] = (cost, 1)
        elif cost == least:
            found[vector] = (cost, many + 1)
    return found


def offers_of(head, shape, menu):
    """For each node the cheapest bare steps to others: triples of the cost, how many there are, and the next node."""
    words = words_of(head.book)
    vectors = vectors_of(reach_of(head))
    spread = {(last, vector): vector_cost(head, vector, last) for last in vectors for vector in vectors}
    found = {}
    for place, entries in enumerate(menu):
        parts = [(len(quarter_bits(block)), end, least_costs(head, words, choices), stills)
                 for block, end, choices, stills in entries]
        for last in vectors:
            offers = []
            for ahead, end, leasts, stills in parts:
                for vector, (cost, many) in leasts.items():
                    behind = last if vector is None else vector
                    told = 0 if vector is None else spread[(last, vector)]
                    offers.append((ahead + cost + told, many, (end, behind)))
                if last in stills:
                    offers.append((ahead + len(words["still"]), 1, (end, last)))
            found[(place, last)] = offers
    return found


def prices_by(head, shape, offers):
    """The least costs from the ends, and from all nodes from which the offers lead to them."""
    found = {node: 0 for node in ends_of(head, shape)}
    for node in reversed(nodes_of(head, shape)):
        costs = [cost + found[behind] for cost, _, behind in offers[node] if behind in found]
        if costs != []:
            found[node] = min(costs)
    return found


def fewest_of(head, shape, plane, references):
    """As fewest, for what was looked at."""
    menu = menu_of(head, shape, plane, references)
    return telling_by(head, menu, prices_by(head, shape, offers_of(head, shape, menu)))


def telling_by(head, menu, found):
    """The telling of the first steps, by the menu, that cost what the prices that were found fall."""
    words = words_of(head.book)
    ends = {block: end for entries in menu for block, end, _, _ in entries}
    told = []
    place, last = START
    while place < len(menu):
        block, choice = first_met(steps_at(head, words, menu[place], last), found, ends, (place, last))
        told.append((block, choice))
        place = ends[block]
        last = last_behind(choice, last)
    return tuple(told)


def fewest_cost(head, shape, plane, references):
    """The number of bits of fewest, for what was looked at."""
    return prices_by(head, shape, offers_of(head, shape, menu_of(head, shape, plane, references)))[START]


def first_met(steps, found, ends, node):
    """The block and the choice of the first of the steps from the node that costs what the prices fall."""
    for block, choice, cost in steps:
        behind = (ends[block], last_behind(choice, node[1]))
        if behind in found and cost + found[behind] == found[node]:
            return block, choice
    return None


def are_prices(head, shape, plane, references, thing):
    """As is_prices, for what was looked at."""
    nodes = nodes_of(head, shape)
    if not is_prices_for(thing, nodes):
        return False
    return is_undercut_by_none(offers_of(head, shape, menu_of(head, shape, plane, references)), nodes, thing)


def is_undercut_by_none(offers, nodes, numbers):
    """Whether no offer from one of the nodes to another one, or to the end, costs less than the numbers fall."""
    last = max([place for place, _ in offers])
    for node in nodes:
        for cost, _, behind in offers[node]:
            if (behind in numbers or behind[0] > last) and numbers[node] - numbers.get(behind, 0) > cost:
                return False
    return True


class Maker:
    """What makes a telling at once: the picture, and what is shown of it so far."""

    def __init__(self, head, shape, plane, references):
        self.head = head
        self.words = words_of(head.book)
        self.shape = shape
        self.plane = plane
        self.references = references
        self.table = moved_guesses(head, shape, references)
        self.rows = [[shape.low] * shape.width for _ in range(shape.height)]

    def choices(self, block, last):
        """The choices among which the best one is, in their order."""
        head, shape = self.head, self.shape
        samples = samples_at(shape, block, self.plane)
        found = []
        for start, guesses in guesses_at(head, shape, block, self.rows, self.table):
            rests = [sample - guess for sample, guess in zip(samples, guesses)]
            levels = tuple([level_for(rest, head.loss) for rest in rests])
            if not any(levels):
                found.append(start + ("none", ()))
            else:
                found.append(start + ("plain", levels))
                if head.loss == 0:
                    found.append(start + ("lifted", tuple(lift_rests(shape, block, rests))))
        guesses = still_guesses(head, shape, block, last, self.table)
        if guesses is not None:
            levels = [level_for(sample - guess, head.loss) for sample, guess in zip(samples, guesses)]
            if not any(levels):
                found.append(("still",))
        return found

    def best_choice(self, block, last):
        """The first of the choices of least cost, and this cost."""
        found = self.choices(block, last)
        costs = [choice_cost(self.head, self.words, choice, last) for choice in found]
        return found[costs.index(min(costs))], min(costs)

    def tell(self, block, last):
        """Tell the block, and show it: the cost, the pairs of blocks and choices, and the last vector behind."""
        choice, cost = self.best_choice(block, last)
        if block[2] > 2:
            cost += 1
            parts = 1
            told = []
            here = last
            for quarter in quarters_of(self.shape, block):
                more, pairs, here = self.tell(quarter, here)
                parts += more
                told.extend(pairs)
            if parts < cost:
                return parts, told, here
        show_block(self.shape, step_of(self.head.loss), block, choice, last, self.rows, self.references)
        return cost, [(block, choice)], last_behind(choice, last)
