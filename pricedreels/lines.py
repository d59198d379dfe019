"""Lines that lose: which pictures are known by what is there, and how many can surely be shown right."""

from pricedreels.buffers import least_number
from pricedreels.checks import is_number, is_tuple_of, is_within
from pricedreels.errors import BadItem, BadLosses, BadLot, BadNumber, BadRate, BadWait, NothingDone, NotNow, TooMany
from pricedreels.games import Game, pictures_with, rights_with
from pricedreels.reels import check_reel, items_in_bits
from pricedreels.webs import is_lot

MOST_ITEMS = 5
MOST_RATE = 20000
MOST_WAIT = 20
MOST_LOSSES = 3


def least_pictures(reel, lot):
    """The least picture of each item, in the order of telling, by the items of the lot."""
    check_lot(reel, lot)
    return pictures_with(reel, lot, reel.shape.low)


def greatest_pictures(reel, lot):
    """The greatest picture of each item, in the order of telling, by the items of the lot."""
    check_lot(reel, lot)
    return pictures_with(reel, lot, reel.shape.high)


def rights(reel, lot):
    """The places, ascending, of the pictures that are known by the items of the lot."""
    check_lot(reel, lot)
    return rights_with(reel, lot)


def best_guess(reel, lot, number):
    """The plane in the middle between the least and the greatest picture of the item, and how wrong it can be."""
    check_lot(reel, lot)
    check_item(reel, number)
    least, greatest = [pictures_with(reel, lot, end)[number] for end in (reel.shape.low, reel.shape.high)]
    plane = tuple([tuple([(low + high) // 2 for low, high in zip(lows, highs)])
                   for lows, highs in zip(least, greatest)])
    error = max([high - sample for highs, row in zip(greatest, plane) for high, sample in zip(highs, row)])
    return plane, error


class Line:
    """A reel that is sent through a line which may lose what it carries."""

    def __init__(self, reel, rate, wait):
        check_sent(reel, rate)
        if not is_within(wait, 0, MOST_WAIT):
            raise BadWait("a wait is a number from 0 to 20")
        self.reel = reel
        self.rate = rate
        self.wait = wait
        self.game = game_of(reel, rate, wait)
        self.deeds = []
        # One for each deed and one ahead of them: the moment, what is there, what is carried, what was right.
        self.stands = [(0, (), None, ())]

    def __eq__(self, other):
        return (isinstance(other, Line) and self.reel == other.reel and self.rate == other.rate
                and self.wait == other.wait and self.deeds == other.deeds)

    def __len__(self):
        return len(self.deeds)

    def send(self, number):
        """The line carries this item from now on."""
        self.check_going()
        check_item(self.reel, number)
        moment, there, carried, right = self.stands[-1]
        if carried is not None:
            raise NotNow("busy")
        if number in there:
            raise NotNow("there")
        self.deeds.append(("send", number))
        self.stands.append((moment, there, (number, 0), right))

    def tick(self):
        """One tick goes by."""
        self.check_going()
        _, there, carried, _ = self.stands[-1]
        if carried is not None:
            carried = (carried[0], carried[1] + 1)
            if carried[1] == self.game.works[carried[0]]:
                there = tuple(sorted(there + (carried[0],)))
                carried = None
        self.go_on(("tick",), there, carried)

    def lose(self):
        """One tick goes by, in which the line loses what it carries."""
        self.check_going()
        _, there, carried, _ = self.stands[-1]
        if carried is None:
            raise NotNow("free")
        self.go_on(("lose",), there, None)

    def undo(self):
        """Take back the last deed that stands."""
        if self.deeds == []:
            raise NothingDone("no deed stands")
        self.deeds.pop()
        self.stands.pop()

    def moment(self):
        """How many ticks went by."""
        return self.stands[-1][0]

    def there(self):
        """The lot of what is there."""
        return self.stands[-1][1]

    def busy(self):
        """The item that the line carries and for how many ticks it has, None if it is free."""
        return self.stands[-1][2]

    def works(self):
        """For each item in how many ticks the line carries it."""
        return list(self.game.works)

    def log(self):
        """The deeds that stand."""
        return list(self.deeds)

    def right(self):
        """The places shown so far whose pictures were known then."""
        return self.stands[-1][3]

    def copy(self):
        """An independent line with the same deeds."""
        other = Line(self.reel, self.rate, self.wait)
        other.deeds = list(self.deeds)
        other.stands = list(self.stands)
        return other

    def hope(self, losses):
        """How many pictures more can surely be shown right, if the line loses at most so often."""
        check_losses(losses)
        return self.game.worst(self.first(losses))

    def advice(self, losses):
        """All choices with which as many pictures as can be are surely shown right."""
        self.check_going()
        moment, there, carried, _ = self.stands[-1]
        if carried is not None:
            raise NotNow("busy")
        check_losses(losses)
        return self.game.best((there, moment, losses))

    def strategy(self, losses):
        """For each position that may come what can be hoped for, and a choice with which it is reached."""
        return {position: (self.game.hope(position), self.game.best(position)[0]) for position in self.coming(losses)}

    def is_strategy(self, losses, number, thing):
        """Whether any value tells choices with which at least so many pictures are shown right."""
        check_losses(losses)
        check_number(number)
        if not isinstance(thing, dict) or not all([self.is_position(position) for position in thing]):
            return False
        for position, told in thing.items():
            if not is_tuple_of(told, 2) or not is_number(told[0]) or not self.is_choice(position, told[1]):
                return False
        leasts = {position: told[0] for position, told in thing.items()}
        found = [(least, self.game.outcomes(position, thing[position][1])) for position, least in leasts.items()]
        return all([all([reaches(leasts, outcome, least) for outcome in outcomes])
                    for least, outcomes in found + [(number, self.first(losses))]])

    def account(self, losses):
        """For each position that may come what can be hoped for at most."""
        return {position: self.game.hope(position) for position in self.coming(losses)}

    def is_account(self, losses, number, thing):
        """Whether any value tells that no choices show more pictures right than so many."""
        check_losses(losses)
        check_number(number)
        if not isinstance(thing, dict) or not all([self.is_position(position) for position in thing]):
            return False
        if not all([is_number(most) for most in thing.values()]):
            return False
        found = [(most, self.game.outcomes(position, choice)) for position, most in thing.items()
                 for choice in self.game.choices(position)]
        return all([any([stays_below(thing, outcome, most) for outcome in outcomes])
                    for most, outcomes in found + [(number, self.first(losses))]])

    def check_going(self):
        if self.moment() == self.game.end:
            raise NotNow("end")

    def go_on(self, deed, there, carried):
        """One tick goes by, in which this is there, and behind which this is carried."""
        moment, _, _, right = self.stands[-1]
        place = moment - self.wait
        if place in self.game.rights(there):
            right = right + (place,)
        self.deeds.append(deed)
        self.stands.append((moment + 1, there, carried, right))

    def first(self, losses):
        """The outcomes that come first."""
        moment, there, carried, _ = self.stands[-1]
        if carried is None:
            return [(0, self.game.position_at(there, moment, losses))]
        return self.game.arrivals(carried[0], self.game.works[carried[0]] - carried[1], there, moment, losses)

    def coming(self, losses):
        """All positions, ascending, that may come."""
        check_losses(losses)
        found = {}
        waiting = [behind for _, behind in self.first(losses)]
        while len(waiting) > 0:
            position = waiting.pop()
            if position is not None and position not in found:
                found[position] = True
                for choice in self.game.choices(position):
                    waiting.extend([behind for _, behind in self.game.outcomes(position, choice)])
        return sorted(list(found))

    def is_position(self, thing):
        """Whether any value is a position."""
        return (is_tuple_of(thing, 3) and is_lot(thing[0], len(self.game.works))
                and is_within(thing[1], 0, self.game.end - 1) and is_within(thing[2], 0, MOST_LOSSES))

    def is_choice(self, position, thing):
        """Whether any value is a choice at the position."""
        return thing is None or (is_number(thing) and thing in self.game.choices(position))


def wait_for(reel, rate, losses):
    """The least wait with which all pictures are surely shown right, None if there is none."""
    check_sent(reel, rate)
    check_losses(losses)
    start = ((), 0, losses)
    return least_number(0, MOST_WAIT, lambda wait: game_of(reel, rate, wait).hope(start) == len(reel.entries))


def check_lot(reel, lot):
    check_reel(reel)
    if not is_lot(lot, len(reel.entries)):
        raise BadLot("a lot is an ascending tuple of different numbers of items")


def check_item(reel, number):
    if not is_within(number, 0, len(reel.entries) - 1):
        raise BadItem(None)


def check_sent(reel, rate):
    check_reel(reel)
    if len(reel.entries) > MOST_ITEMS:
        raise TooMany(MOST_ITEMS)
    if not is_within(rate, 1, MOST_RATE):
        raise BadRate("a rate is a number from 1 to 20000")


def check_losses(losses):
    if not is_within(losses, 0, MOST_LOSSES):
        raise BadLosses("losses are a number from 0 to 3")


def check_number(number):
    if not is_number(number):
        raise BadNumber("a number is an int that is not a bool")


def game_of(reel, rate, wait):
    """The game of the reel, by the works of its items."""
    return Game(reel, [(len(bits) + rate - 1) // rate for bits in items_in_bits(reel)], wait)


def reaches(leasts, outcome, least):
    """Whether the gain of the outcome, with what is told of the next position, is at least so much."""
    gain, behind = outcome
    return gain >= least if behind is None else behind in leasts and gain + leasts[behind] >= least


def stays_below(mosts, outcome, most):
    """Whether the gain of the outcome, with what is told of the next position, is at most so much."""
    gain, behind = outcome
    return gain <= most if behind is None else behind in mosts and gain + mosts[behind] <= most
