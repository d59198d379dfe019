"""Reels: pictures told one behind the other, each by a head and by those on which it leans."""

from pricedreels.bits import check_stream, in_bits
from pricedreels.checks import is_tuple_of, is_within
from pricedreels.errors import BadItem, BadMany, BadPlace, BadReel, BadShows, BadStream
from pricedreels.grids import HIGHEST, LOWEST, MOST_SPOTS, Shape, check_shape
from pricedreels.heads import Head, head_bits
from pricedreels.tapes import Tape
from pricedreels.tellings import bits_told, check_references, is_telling_of, played, take_telling

MOST_ITEMS = 32
BITS_OF_SIDE = 4
BITS_OF_END = 10
BITS_OF_MANY = 5


class Reel:
    """A shape and items of it, in the order of telling."""

    def __init__(self, shape, entries):
        if not isinstance(shape, Shape):
            raise BadReel("shape")
        if not isinstance(entries, (list, tuple)) or not 1 <= len(entries) <= MOST_ITEMS:
            raise BadReel("entries")
        shows = []
        for number, item in enumerate(entries):
            if not is_item_of(shape, item) or item[0] >= len(entries) or item[0] in shows:
                raise BadItem(number)
            if not all([lean < number for lean in item[1]]):
                raise BadItem(number)
            shows.append(item[0])
        self.shape = shape
        self.entries = tuple(entries)

    def __eq__(self, other):
        return isinstance(other, Reel) and self.shape == other.shape and self.entries == other.entries

    def __len__(self):
        return len(self.entries)


def reel_bits(reel):
    """The bits of the reel."""
    check_reel(reel)
    return start_bits(reel.shape, len(reel.entries)) + "".join(items_in_bits(reel))


def read_reel(bits):
    """The reel with just these bits."""
    check_stream(bits, 0)
    tape = Tape(bits, 0)
    reel = take_reel(tape)
    if tape.at < len(bits):
        raise BadStream(tape.at)
    return reel


def item_sizes(reel):
    """How many bits each item has."""
    check_reel(reel)
    return [len(bits) for bits in items_in_bits(reel)]


def read_start(bits):
    """The shape, the number of items, and the index behind the start."""
    check_stream(bits, 0)
    tape = Tape(bits, 0)
    shape, many = take_start(tape)
    return shape, many, tape.at


def read_item(shape, many, shows, bits, at):
    """The item whose bits begin at at, and the index behind it; shows are those of the items ahead."""
    check_shape(shape)
    if not is_within(many, 1, MOST_ITEMS):
        raise BadMany("a reel has 1 to 32 items")
    if not are_shows(many, shows):
        raise BadShows("the shows of the items ahead are different places of the reel, and fewer")
    check_stream(bits, at)
    tape = Tape(bits, at)
    item = take_item(shape, many, shows, tape)
    return item, tape.at


def is_begun(bits):
    """Whether the bits are the beginning of those of some reel, and not those of a whole one."""
    check_stream(bits, 0)
    tape = Tape(bits, 0)
    try:
        take_reel(tape)
    except BadStream:
        return tape.is_begun()
    return False


def play_item(shape, item, references):
    """The plane that the item's telling plays."""
    check_shape(shape)
    if not is_item_of(shape, item):
        raise BadItem(None)
    check_references(item[2], shape, references)
    return item_played(shape, item, references)


def told_planes(reel):
    """The planes of the items, in the order of telling."""
    check_reel(reel)
    return planes_of(reel)


def shown_planes(reel):
    """The planes of the items, in the order of shows."""
    check_reel(reel)
    told = planes_of(reel)
    return [told[number] for number in numbers_shown(reel)]


def needed(reel, place):
    """The numbers, ascending, of the item that is shown at the place and of all on which it hangs."""
    check_reel(reel)
    check_place(reel, place)
    return needed_for(reel, [numbers_shown(reel)[place]])


def show_one(reel, place):
    """The plane that is shown at the place."""
    check_reel(reel)
    check_place(reel, place)
    planes = {}
    number = numbers_shown(reel)[place]
    for other in needed_for(reel, [number]):
        item = reel.entries[other]
        planes[other] = item_played(reel.shape, item, [planes[lean] for lean in item[1]])
    return planes[number]


def check_reel(reel):
    if not isinstance(reel, Reel):
        raise BadReel(None)


def check_place(reel, place):
    if not is_within(place, 0, len(reel.entries) - 1):
        raise BadPlace("a place is a number below the number of items")


def is_item_of(shape, thing):
    """Whether any value is an item of the shape."""
    if not is_tuple_of(thing, 4):
        return False
    show, leans, head, telling = thing
    if not is_within(show, 0, MOST_ITEMS - 1) or not isinstance(head, Head) or not is_tuple_of(leans, head.kind):
        return False
    return all([is_within(lean, 0, MOST_ITEMS - 2) for lean in leans]) and is_telling_of(head, shape, telling)


def are_shows(many, thing):
    """Whether any value is a tuple of fewer than many different places of a reel of many items."""
    if not isinstance(thing, tuple) or len(thing) >= many:
        return False
    return all([is_within(show, 0, many - 1) and show not in thing[:at] for at, show in enumerate(thing)])


def numbers_shown(reel):
    """The numbers of the items, in the order of shows."""
    shows = [item[0] for item in reel.entries]
    return [shows.index(place) for place in range(len(shows))]


def needed_for(reel, numbers):
    """The numbers, ascending, of these items and of all on which they hang."""
    found = {number: True for number in numbers}
    for number in reversed(range(len(reel.entries))):
        if number in found:
            for lean in reel.entries[number][1]:
                found[lean] = True
    return tuple(sorted(list(found)))


def item_played(shape, item, references):
    """As play_item, for what was looked at."""
    return played(item[2], shape, item[3], references)[0]


def planes_of(reel):
    """As told_planes, for a reel that was looked at."""
    told = []
    for item in reel.entries:
        told.append(item_played(reel.shape, item, [told[lean] for lean in item[1]]))
    return told


def start_bits(shape, many):
    """The bits of the start of a reel of many items."""
    sides = [in_bits(side - 1, BITS_OF_SIDE) for side in (shape.height, shape.width)]
    ends = [in_bits(end - LOWEST, BITS_OF_END) for end in (shape.low, shape.high)]
    return "".join(sides + ends) + in_bits(many - 1, BITS_OF_MANY)


def bits_below(many):
    """How many bits the greatest number below many has without zeros in front."""
    return (many - 1).bit_length()


def items_in_bits(reel):
    """The bits of each item."""
    return [item_bits(len(reel.entries), number, item) for number, item in enumerate(reel.entries)]


def item_bits(many, number, item):
    """The bits of the item of this number of a reel of many items."""
    show, leans, head, telling = item
    told = in_bits(show, bits_below(many)) + head_bits(head)
    return told + "".join([in_bits(lean, bits_below(number)) for lean in leans]) + bits_told(head, telling)


def take_number(tape, low, high, many):
    """The number from low to high that the tape has here, in many bits."""
    return tape.pick({number: in_bits(number, many) for number in range(low, high + 1)})


def take_start(tape):
    """The shape and the number of items that the tape has here."""
    height = 1 + take_number(tape, 0, MOST_SPOTS - 1, BITS_OF_SIDE)
    width = 1 + take_number(tape, 0, MOST_SPOTS - 1, BITS_OF_SIDE)
    low = LOWEST + take_number(tape, 0, HIGHEST - LOWEST, BITS_OF_END)
    high = LOWEST + take_number(tape, low - LOWEST, HIGHEST - LOWEST, BITS_OF_END)
    many = 1 + take_number(tape, 0, MOST_ITEMS - 1, BITS_OF_MANY)
    return Shape(height, width, low, high), many


def take_beginning(many, shows, tape):
    """The show, the leans and the head that the tape has here, of the item behind those with these shows."""
    number = len(shows)
    show = tape.pick({place: in_bits(place, bits_below(many)) for place in range(many) if place not in shows})
    head = tape.whole_head(2 if number > 0 else 0)
    return show, tuple([take_number(tape, 0, number - 1, bits_below(number)) for _ in range(head.kind)]), head


def take_item(shape, many, shows, tape):
    """The item that the tape has here, behind those with these shows."""
    show, leans, head = take_beginning(many, shows, tape)
    return show, leans, head, take_telling(head, shape, tape)


def take_reel(tape):
    """The reel that the tape has here."""
    shape, many = take_start(tape)
    entries = []
    for _ in range(many):
        entries.append(take_item(shape, many, tuple([item[0] for item in entries]), tape))
    return Reel(shape, entries)
