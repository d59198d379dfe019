"""Cuts: pictures taken out of a reel with the fewest bits, and reels put one behind the other."""

from pricedreels.checks import is_within
from pricedreels.errors import BadHead, BadWish, OtherShapes, TooMany
from pricedreels.fewest import check_lossless, fewest_cost, fewest_of
from pricedreels.heads import check_head
from pricedreels.reels import MOST_ITEMS, Reel, check_reel, numbers_shown, planes_of
from pricedreels.stocks import choices_of_least_cost, staying_of
from pricedreels.tellings import bits_told


def stock_of(reel, head):
    """The stock of the reel's items."""
    check_reel(reel)
    check_alone(head)
    return stock_for(reel, head)


def cut(reel, wish, head):
    """The reel that shows, first of all, the pictures of these places, with the fewest bits."""
    check_wish(reel, wish)
    check_alone(head)
    chosen, stays = items_cut(reel, wish, head)
    wished = [numbers_shown(reel)[place] for place in wish]
    shown = wished + [number for number in chosen if number not in wished]
    planes = planes_of(reel)
    entries = []
    for number in chosen:
        _, leans, own_head, telling = reel.entries[number]
        if number in stays:
            there = tuple([chosen.index(lean) for lean in leans])
            entries.append((shown.index(number), there, own_head, telling))
        else:
            entries.append((shown.index(number), (), head, fewest_of(head, reel.shape, planes[number], [])))
    return Reel(reel.shape, entries)


def hidden(reel, wish, head):
    """The places of the reel whose items are in the cut and not wanted."""
    check_wish(reel, wish)
    check_alone(head)
    chosen, _ = items_cut(reel, wish, head)
    return tuple(sorted([reel.entries[number][0] for number in chosen if reel.entries[number][0] not in wish]))


def joined(one, other):
    """The reel of the items of one and, behind them, of the other."""
    check_reel(one)
    check_reel(other)
    if one.shape != other.shape:
        raise OtherShapes("the shapes of both reels are equal")
    many = len(one.entries)
    if many + len(other.entries) > MOST_ITEMS:
        raise TooMany(MOST_ITEMS)
    behind = [(show + many, tuple([lean + many for lean in leans]), head, telling)
              for show, leans, head, telling in other.entries]
    return Reel(one.shape, list(one.entries) + behind)


def check_alone(head):
    check_head(head)
    if head.kind != 0:
        raise BadHead("kind")
    check_lossless(head)


def check_wish(reel, wish):
    check_reel(reel)
    if not isinstance(wish, (list, tuple)) or wish == [] or wish == ():
        raise BadWish("a wish is a list of one or more places")
    for at, place in enumerate(wish):
        if not is_within(place, 0, len(reel.entries) - 1) or place in wish[:at]:
            raise BadWish("a wish has different places of the reel")


def stock_for(reel, head):
    """As stock_of, for what was looked at."""
    leans = [tuple([other for other in range(number) if other in item[1]]) for number, item in enumerate(reel.entries)]
    told = [len(bits_told(item[2], item[3])) for item in reel.entries]
    return leans, told, [fewest_cost(head, reel.shape, plane, []) for plane in planes_of(reel)]


def items_cut(reel, wish, head):
    """The lesser choice of items of the least cost, and those of it that stay."""
    stock = stock_for(reel, head)
    chosen, _ = choices_of_least_cost(stock, tuple(sorted([numbers_shown(reel)[place] for place in wish])))
    return chosen, staying_of(stock, chosen)
