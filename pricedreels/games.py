"""Games: what may become of a reel that is sent through a line which may lose what it carries."""

from pricedreels.reels import item_played


def pictures_with(reel, lot, number):
    """The planes of all items, in the order of telling, if those not in the lot have the number everywhere."""
    shape = reel.shape
    planes = []
    for at, item in enumerate(reel.entries):
        if at in lot:
            planes.append(item_played(shape, item, [planes[lean] for lean in item[1]]))
        else:
            planes.append(((number,) * shape.width,) * shape.height)
    return planes


def rights_with(reel, lot):
    """The places, ascending, of the pictures that are known by the items of the lot."""
    least = pictures_with(reel, lot, reel.shape.low)
    greatest = pictures_with(reel, lot, reel.shape.high)
    return tuple(sorted([item[0] for at, item in enumerate(reel.entries) if least[at] == greatest[at]]))


class Game:
    """The works of a reel's items, the wait, and what can surely be hoped for from each position.

    A position is a triple of what is there, the moment and how often the line
    may still lose; it stands for a line that is free, ahead of the end.
    """

    def __init__(self, reel, works, wait):
        self.reel = reel
        self.works = works
        self.wait = wait
        self.end = wait + len(works)
        self.known = {}
        self.hopes = {}

    def rights(self, there):
        """The places of the pictures that are known by what is there."""
        if there not in self.known:
            self.known[there] = rights_with(self.reel, there)
        return self.known[there]

    def gain(self, there, moment, later):
        """How many pictures are shown right from the one moment to the other, this being there."""
        return len([place for place in self.rights(there) if moment <= self.wait + place < later])

    def position_at(self, there, moment, losses):
        """The position, None at the end."""
        return None if moment == self.end else (there, moment, losses)

    def choices(self, position):
        """The choices at the position, ascending."""
        return [item for item in range(len(self.works)) if item not in position[0]] + [None]

    def outcomes(self, position, choice):
        """The pairs of the gain and the next position that may become of the choice."""
        there, moment, losses = position
        if choice is None:
            return [(self.gain(there, moment, moment + 1), self.position_at(there, moment + 1, losses))]
        return self.arrivals(choice, self.works[choice], there, moment, losses)

    def arrivals(self, item, work, there, moment, losses):
        """As outcomes, for an item of which so much work is left."""
        later = moment + work
        if later <= self.end:
            longer = tuple(sorted(there + (item,)))
            gain = self.gain(there, moment, later - 1) + self.gain(longer, later - 1, later)
            found = [(gain, self.position_at(longer, later, losses))]
        else:
            found = [(self.gain(there, moment, self.end), None)]
        if losses > 0:
            found.extend([(self.gain(there, moment, lost), self.position_at(there, lost, losses - 1))
                          for lost in range(moment + 1, min(later, self.end) + 1)])
        return found

    def hope(self, position):
        """The greatest number of pictures that can surely be shown right from the position on."""
        if position not in self.hopes:
            self.hopes[position] = max([self.worst(self.outcomes(position, choice))
                                        for choice in self.choices(position)])
        return self.hopes[position]

    def worst(self, outcomes):
        """The least, over the outcomes, of the gain and what can be hoped for behind it."""
        return min([gain + (0 if behind is None else self.hope(behind)) for gain, behind in outcomes])

    def best(self, position):
        """The choices, ascending, with which the hope of the position is reached."""
        return [choice for choice in self.choices(position)
                if self.worst(self.outcomes(position, choice)) == self.hope(position)]
