"""Pieces: what a reader that was fed the beginning of a reel's bits can surely show."""

from pricedreels.bits import in_bits, is_bits
from pricedreels.checks import is_tuple_of, is_within
from pricedreels.errors import BadBits, BadItem, BadShape, BadState, BadStream, NotNow
from pricedreels.grids import Shape, fits_shape, flat_plane, roots_of, spots_of
from pricedreels.heads import Head, head_bits, words_of
from pricedreels.losses import step_of
from pricedreels.reels import MOST_ITEMS, bits_below, start_bits, take_beginning, take_start
from pricedreels.stretches import check_spot
from pricedreels.tapes import Tape
from pricedreels.tellings import (STILL_VECTOR, bits_told, choice_bits, last_behind, modes_for, quarter_bits,
                                  show_block, take_block)

# Words of one bit for "flat", and for "flat" and "still".
FLAT_BOOK = (1, 0, 0, 0, 0, 0, 0, 0)
STILL_BOOK = (1, 0, 0, 0, 0, 0, 0, 1)


class Half:
    """An item of which the beginning is solid, and perhaps some blocks."""

    def __init__(self, shape, many, done, tape):
        self.shape = shape
        self.show, leans, self.head = take_beginning(many, tuple([show for show, _ in done]), tape)
        self.references = [done[lean][1] for lean in leans]
        self.words = words_of(self.head.book)
        self.last = STILL_VECTOR
        self.waiting = roots_of(shape)
        self.rows = [[shape.low] * shape.width for _ in range(shape.height)]

    def take(self, tape):
        """Take the next block that the tape has here."""
        block, choice, self.waiting = take_block(self.head, self.words, self.shape, self.waiting, self.last, tape)
        show_block(self.shape, step_of(self.head.loss), block, choice, self.last, self.rows, self.references)
        self.last = last_behind(choice, self.last)

    def missing(self):
        """The spots that are not told."""
        return [spot for block in self.waiting for spot in spots_of(self.shape, block)]

    def cheapest(self, block):
        """The bits of a choice for the block with as few bits as any."""
        starts = {"copy": ("copy", 0, self.last), "both": ("both", self.last)}
        choices = [("still",) if mode == "still" else starts.get(mode, (mode,)) + ("none", ())
                   for mode in modes_for(self.head, block)]
        return min([choice_bits(self.head, self.words, choice, self.last) for choice in choices], key=len)

    def ending(self, spot, level):
        """Bits that tell what is waited for, with this level at the spot, if there is one."""
        found = []
        for block in self.waiting:
            told = self.cheapest(block)
            if spot in spots_of(self.shape, block):
                told = choice_bits(self.head, self.words, flat_choice(self.shape, block, spot, level), self.last)
            found.append(quarter_bits(block) + told)
        return "".join(found)


class Reader:
    """What came of the bits of a reel.

    Of the items that are whole just their shows and planes are kept, and
    the bits behind the last one of them, from which the rest follows.
    """

    def __init__(self):
        self.told_start = None
        self.done = []
        self.rest = ""
        self.half = None
        self.solid = 0
        self.word = "begun"

    def __eq__(self, other):
        return isinstance(other, Reader) and self.state() == other.state()

    def feed(self, bits):
        """These bits come behind all that came before."""
        if not is_bits(bits):
            raise BadBits("bits are a string of 0 and 1")
        self.read_on(self.rest + bits)

    def standing(self):
        """Whether the bits that came are those of a reel, or can still become those of one."""
        return self.word

    def loose(self):
        """The bits that came behind the solid ones."""
        return self.rest[self.solid:]

    def start(self):
        """The shape and the number of items, None if the start is not solid."""
        return self.told_start

    def many_told(self):
        """The number of items that are solid to their end."""
        return len(self.done)

    def sight(self, number):
        """The samples of the item's picture that are known, None for the others, in rows."""
        self.check_item(number)
        shape, _ = self.told_start
        known = self.known(number)
        if known is not None:
            return known
        if self.half is None or number > len(self.done):
            return ((None,) * shape.width,) * shape.height
        missing = {spot: True for spot in self.half.missing()}
        return tuple([tuple([None if (y, x) in missing else sample for x, sample in enumerate(row)])
                      for y, row in enumerate(self.half.rows)])

    def shown(self):
        """The planes, in the order of shows, up to the first one that is not known."""
        if self.told_start is None:
            return []
        shape, many = self.told_start
        if shape.low == shape.high:
            return [flat_plane(shape, shape.low) for _ in range(many)]
        planes = {show: plane for show, plane in self.done}
        found = []
        while len(found) in planes:
            found.append(planes[len(found)])
        return found

    def ending(self):
        """As few bits as can be that make, behind the solid ones, the bits of a reel."""
        return self.ending_with(None, None, 0)

    def doubt(self, number, spot):
        """Two endings by which the pictures of the item differ at the spot, None if the sample is known."""
        self.check_item(number)
        check_spot(self.told_start[0], spot)
        if self.sight(number)[spot[0]][spot[1]] is not None:
            return None
        return self.ending_with(number, spot, 0), self.ending_with(number, spot, 1)

    def is_doubt(self, number, spot, thing):
        """Whether any value is a pair of endings by which the pictures of the item differ at the spot."""
        self.check_item(number)
        check_spot(self.told_start[0], spot)
        if not is_tuple_of(thing, 2) or not all([is_bits(part) for part in thing]):
            return False
        one, other = [reader_from(self.told_start, self.done, self.rest[:self.solid] + part) for part in thing]
        if one.word != "whole" or other.word != "whole":
            return False
        y, x = spot
        return one.done[number][1][y][x] != other.done[number][1][y][x]

    def state(self):
        """What a reader has to keep: the start, the shows and planes that are told, and the bits behind them."""
        if self.told_start is None:
            return (), (), self.rest
        shape, many = self.told_start
        return (shape.height, shape.width, shape.low, shape.high, many), tuple(self.done), self.rest

    def check_item(self, number):
        if self.told_start is None:
            raise NotNow("start")
        if not is_within(number, 0, self.told_start[1] - 1):
            raise BadItem(None)

    def known(self, number):
        """The plane of the item, if all of it is known."""
        shape, _ = self.told_start
        if shape.low == shape.high:
            return flat_plane(shape, shape.low)
        return self.done[number][1] if number < len(self.done) else None

    def read_on(self, rest):
        """Read all units that are whole, this being what came behind the last item that is told."""
        self.rest = rest
        while self.word != "none" and self.is_next_whole():
            self.word = "begun"

    def is_next_whole(self):
        """Whether the next unit is whole, and then take it."""
        if self.told_start is not None and len(self.done) == self.told_start[1]:
            self.word = "whole" if self.rest == "" else "none"
            return False
        tape = Tape(self.rest, self.solid)
        try:
            self.take_unit(tape)
        except BadStream:
            # What is none now stays so whatever comes.
            self.word = "begun" if tape.is_begun() else "none"
            return False
        return True

    def take_unit(self, tape):
        """Take the unit that the tape has here."""
        if self.told_start is None:
            self.told_start = take_start(tape)
            self.leave_behind(tape.at)
        elif self.half is None:
            shape, many = self.told_start
            self.half = Half(shape, many, self.done, tape)
            self.solid = tape.at
        else:
            self.half.take(tape)
            self.solid = tape.at
            if self.half.waiting == []:
                self.done.append((self.half.show, tuple([tuple(row) for row in self.half.rows])))
                self.half = None
                self.leave_behind(tape.at)

    def leave_behind(self, at):
        """Keep what came from at on."""
        self.rest = self.rest[at:]
        self.solid = 0

    def ending_with(self, number, spot, level):
        """Bits that make those of a reel, in which the item of this number, if any, has the level at the spot."""
        if self.told_start is None:
            shape = Shape(1, 1, 0, 0)
            return start_bits(shape, 1) + fresh_item(shape, 1, 0, 0, False, None, 0)
        shape, many = self.told_start
        shows = [show for show, _ in self.done]
        found = []
        if self.half is not None:
            shows.append(self.half.show)
            found.append(self.half.ending(spot if number == len(self.done) else None, level))
        for show in [place for place in range(many) if place not in shows]:
            at = len(shows)
            found.append(fresh_item(shape, many, at, show, at == number, spot, level))
            shows.append(show)
        return "".join(found)


def is_state(thing):
    """Whether any value is the state of some reader."""
    if not is_tuple_of(thing, 3) or not isinstance(thing[1], tuple) or not is_bits(thing[2]):
        return False
    start, done, rest = thing
    if start == ():
        return done == () and reader_from(None, [], rest).told_start is None
    if not is_tuple_of(start, 5) or not is_within(start[4], 1, MOST_ITEMS):
        return False
    try:
        shape = Shape(start[0], start[1], start[2], start[3])
    except BadShape:
        return False
    if not are_done(shape, start[4], done):
        return False
    return reader_from((shape, start[4]), done, rest).many_told() == len(done)


def reader_of(thing):
    """A reader with this state."""
    if not is_state(thing):
        raise BadState("no reader has this state")
    start, done, rest = thing
    if start == ():
        return reader_from(None, [], rest)
    return reader_from((Shape(start[0], start[1], start[2], start[3]), start[4]), done, rest)


def are_done(shape, many, done):
    """Whether the values are pairs of shows, no two alike, and planes, and no more than there are items."""
    shows = []
    for part in done:
        if not is_tuple_of(part, 2) or not is_within(part[0], 0, many - 1) or part[0] in shows:
            return False
        if not fits_shape(shape, part[1]):
            return False
        shows.append(part[0])
    return len(done) <= many


def reader_from(start, done, rest):
    """A reader with this start, to which these shows and planes were told, and then this rest came."""
    reader = Reader()
    reader.told_start = start
    reader.done = list(done)
    reader.read_on(rest)
    return reader


def flat_choice(shape, block, spot, level):
    """The choice that guesses the middle, with this level at the spot."""
    if level == 0:
        return "flat", "none", ()
    return "flat", "plain", tuple([level if other == spot else 0 for other in spots_of(shape, block)])


def fresh_item(shape, many, number, show, is_doubted, spot, level):
    """The bits of an item, as few as can be, or, if it is doubted, with this level at the spot."""
    roots = roots_of(shape)
    shown = in_bits(show, bits_below(many))
    leaning = bits_below(number)
    if number > 0 and not is_doubted and leaning + 2 * len(roots) < 3 * len(roots):
        head = Head(1, 0, 0, 0, STILL_BOOK)
        return shown + head_bits(head) + in_bits(0, leaning) + bits_told(head, [(root, ("still",)) for root in roots])
    head = Head(0, 0, 0, 0, FLAT_BOOK)
    telling = [(root, flat_choice(shape, root, spot, level if spot in spots_of(shape, root) else 0)) for root in roots]
    return shown + head_bits(head) + bits_told(head, telling)
