"""Stocks: which items stay, are told anew, or are left out, with the fewest bits, shown by shares."""

from pricedreels.checks import is_plain, is_tuple_of, is_within
from pricedreels.errors import BadChosen, BadShares, BadStock, BadWanted
from pricedreels.webs import are_in, is_lot

MOST_ITEMS = 32
MOST_BITS = 999999


def choice_cost(stock, wanted, chosen):
    """The cost of a choice of items."""
    check_chosen(stock, wanted, chosen)
    return cost_of_choice(stock, chosen)


def staying(stock, wanted, chosen):
    """The items of a choice that stay as they were told."""
    check_chosen(stock, wanted, chosen)
    return staying_of(stock, chosen)


def least_cut(stock, wanted):
    """The least cost of a choice."""
    check_wanted(stock, wanted)
    return floor_by(stock, wanted, shares_of(stock, wanted))


def cut_choices(stock, wanted):
    """The choices of the least cost that lie within all others, and within which all others lie."""
    check_wanted(stock, wanted)
    return choices_of_least_cost(stock, wanted)


def shares(stock, wanted):
    """Shares with the greatest floor."""
    check_wanted(stock, wanted)
    return {pair: number for pair, number in shares_of(stock, wanted).items() if number > 0}


def is_shares(stock, wanted, thing):
    """Whether any value is shares."""
    check_wanted(stock, wanted)
    return are_shares_of(stock, wanted, thing)


def floor_of(stock, wanted, paper):
    """The floor of the shares."""
    check_wanted(stock, wanted)
    if not are_shares_of(stock, wanted, paper):
        raise BadShares("shares are a dict from pairs of items to numbers that no gain and no bits undercut")
    return floor_by(stock, wanted, paper)


def is_least_cut(stock, wanted, chosen, thing):
    """Whether two values are a choice of items and shares whose floor is its cost."""
    check_wanted(stock, wanted)
    if not is_choice_of(stock, wanted, chosen) or not are_shares_of(stock, wanted, thing):
        return False
    return cost_of_choice(stock, chosen) == floor_by(stock, wanted, thing)


def check_wanted(stock, wanted):
    if not is_tuple_of(stock, 3):
        raise BadStock(None)
    leans, told, anew = stock
    if not isinstance(leans, (list, tuple)) or not 1 <= len(leans) <= MOST_ITEMS:
        raise BadStock("leans")
    if not all([is_lot(row, item) for item, row in enumerate(leans)]):
        raise BadStock("leans")
    if not are_bits(told, len(leans)):
        raise BadStock("told")
    if not are_bits(anew, len(leans)):
        raise BadStock("anew")
    if not is_lot(wanted, len(leans)) or wanted == ():
        raise BadWanted("what is wanted is an ascending tuple of one or more items")


def check_chosen(stock, wanted, chosen):
    check_wanted(stock, wanted)
    if not is_choice_of(stock, wanted, chosen):
        raise BadChosen("a choice is an ascending tuple of items with all that are wanted")


def are_bits(thing, many):
    """Whether any value is a list of so many numbers of bits."""
    return (isinstance(thing, (list, tuple)) and len(thing) == many
            and all([is_within(number, 0, MOST_BITS) for number in thing]))


def is_choice_of(stock, wanted, thing):
    """Whether any value is a choice of items."""
    return is_lot(thing, len(stock[0])) and are_in(wanted, thing)


def staying_of(stock, chosen):
    """As staying, for what was looked at."""
    leans, told, anew = stock
    return tuple([item for item in chosen if told[item] <= anew[item] and are_in(leans[item], chosen)])


def cost_of_choice(stock, chosen):
    """As choice_cost, for what was looked at."""
    _, told, anew = stock
    stays = staying_of(stock, chosen)
    return sum([told[item] if item in stays else anew[item] for item in chosen])


def gain_of(stock, item):
    """How many bits it saves to leave the item as it was told."""
    return max(0, stock[2][item] - stock[1][item])


def pairs_of(stock, wanted):
    """The pairs that can have shares, ascending: each item with what must be there for it, but for what is wanted."""
    return [(item, other) for item, row in enumerate(stock[0]) for other in row + (item,) if other not in wanted]


def floor_by(stock, wanted, paper):
    """As floor_of, for what was looked at."""
    gains = sum([gain_of(stock, item) for item in range(len(stock[0]))])
    return sum([stock[2][item] for item in wanted]) - gains + sum(list(paper.values()))


def left_by(stock, paper):
    """What the shares leave of the gain of each item, and of its bits told anew."""
    gains = [gain_of(stock, item) for item in range(len(stock[0]))]
    costs = list(stock[2])
    for (item, other), number in paper.items():
        gains[item] -= number
        costs[other] -= number
    return gains, costs


def are_shares_of(stock, wanted, thing):
    """As is_shares, for what was looked at."""
    if not isinstance(thing, dict):
        return False
    pairs = {pair: True for pair in pairs_of(stock, wanted)}
    for pair, number in thing.items():
        if not is_plain(pair) or pair not in pairs or not is_within(number, 1, MOST_BITS):
            return False
    gains, costs = left_by(stock, thing)
    return min(gains) >= 0 and min(costs) >= 0


def shares_of(stock, wanted):
    """Shares with the greatest floor, also those of 0: as long as there is a way, more is shared along it."""
    found = {pair: 0 for pair in pairs_of(stock, wanted)}
    while True:
        gains, costs = left_by(stock, found)
        ways = [way for way in ways_on(found, gains) if len(way) % 2 == 0 and costs[way[-1]] > 0]
        if ways == []:
            return found
        way = ways[0]
        ons = list(zip(way[::2], way[1::2]))
        backs = list(zip(way[2::2], way[1::2]))
        many = min([gains[way[0]], costs[way[-1]]] + [found[pair] for pair in backs])
        for pair in ons:
            found[pair] += many
        for pair in backs:
            found[pair] -= many


def ways_on(found, gains):
    """The shortest ways from gains of which something is left to all items to which some lead, the shorter ones first.

    A way goes, in turn, from an item whose gain is shared to one that must be
    there for it, and from this one back to another one whose gain is shared.
    """
    ways = [(item,) for item, left in enumerate(gains) if left > 0]
    reached = [{item: True for item, in ways}, {}]
    at = 0
    while at < len(ways):
        way = ways[at]
        side = len(way) % 2
        for other in next_items(found, side, way[-1]):
            if other not in reached[side]:
                reached[side][other] = True
                ways.append(way + (other,))
        at += 1
    return ways


def next_items(found, side, item):
    """The items to which a way goes on: from a gain to all that must be there, back as far as there are shares."""
    if side == 1:
        return [other for one, other in list(found) if one == item]
    return [one for (one, other), number in found.items() if other == item and number > 0]


def choices_of_least_cost(stock, wanted):
    """As cut_choices, for what was looked at."""
    found = shares_of(stock, wanted)
    gains, costs = left_by(stock, found)
    items = list(range(len(costs)))
    # What a gain that is left leads to is in each choice; what leads to bits that are left is in none.
    needed = [way[-1] for way in ways_on(found, gains)]
    barred = leading_to(found, [item for item in items if costs[item] > 0])
    return (tuple([item for item in items if item in wanted or item in needed]),
            tuple([item for item in items if item in wanted or item not in barred]))


def leading_to(found, items):
    """These items, and all others from which ways lead to them."""
    barred = list(items)
    at = 0
    while at < len(barred):
        sharing = [one for one, other in list(found) if other == barred[at]]
        barred.extend([other for (one, other), number in found.items()
                       if number > 0 and one in sharing and other not in barred])
        at += 1
    return barred
