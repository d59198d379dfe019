"""Tellings: how the blocks of a picture are told, what they show, and their bits."""

from pricedreels.bits import check_stream, grade_bits, in_bits, is_told, long_bits
from pricedreels.checks import clipped, is_tuple_of, is_within
from pricedreels.copies import both_of, copy_of, is_vector
from pricedreels.errors import BadReferences, BadTelling
from pricedreels.grids import (are_cover, check_block, check_shape, columns_of, fits_shape, quarters_of,
                               roots_of, sizes_at, spots_of)
from pricedreels.guesses import MODES, guesses_of, modes_standing
from pricedreels.heads import check_head, words_of
from pricedreels.lifts import in_rows, lifted, unlifted
from pricedreels.losses import step_of
from pricedreels.tapes import Tape

STILL_VECTOR = (0, 0)
WAYS = {"none": "0", "plain": "10", "lifted": "11"}
WHOLE = "0"
QUARTERED = "1"


def is_choice(head, shape, block, thing):
    """Whether any value is a choice for the block."""
    check_head(head)
    check_shape(shape)
    check_block(shape, block)
    return is_choice_for(head, shape, block, thing)


def is_telling(head, shape, thing):
    """Whether any value is a telling of head and shape."""
    check_head(head)
    check_shape(shape)
    return is_telling_of(head, shape, thing)


def play(head, shape, telling, references):
    """The plane that the telling shows."""
    check_play(head, shape, telling, references)
    return played(head, shape, telling, references)[0]


def does_fit(head, shape, telling, references):
    """Whether no sample of a block that is told lifted had to be clipped."""
    check_play(head, shape, telling, references)
    return played(head, shape, telling, references)[1]


def bits_of(head, shape, telling):
    """The bits of the telling."""
    check_told_by(head, shape, telling)
    return bits_told(head, telling)


def worth(head, shape, telling):
    """How many bits the telling has."""
    check_told_by(head, shape, telling)
    return len(bits_told(head, telling))


def read_telling(head, shape, bits, at):
    """The telling whose bits begin at at, and the index behind it."""
    check_head(head)
    check_shape(shape)
    check_stream(bits, at)
    tape = Tape(bits, at)
    telling = take_telling(head, shape, tape)
    return telling, tape.at


def check_told_by(head, shape, telling):
    check_head(head)
    check_shape(shape)
    check_telling(head, shape, telling)


def check_play(head, shape, telling, references):
    check_told_by(head, shape, telling)
    check_references(head, shape, references)


def check_telling(head, shape, telling):
    if not is_telling_of(head, shape, telling):
        raise BadTelling("a telling is a tuple of pairs of a block and a choice, the blocks a cover")


def check_references(head, shape, references):
    if not isinstance(references, (list, tuple)) or len(references) != head.kind:
        raise BadReferences("the kind tells how many references there are")
    if not all([fits_shape(shape, plane) for plane in references]):
        raise BadReferences("references are planes of the shape")


def is_telling_of(head, shape, thing):
    """As is_telling, for what was looked at."""
    if not isinstance(thing, tuple) or not all([is_tuple_of(pair, 2) for pair in thing]):
        return False
    if not are_cover(shape, [block for block, _ in thing]):
        return False
    return all([is_choice_for(head, shape, block, choice) for block, choice in thing])


def modes_for(head, block):
    """The modes that can stand at the block and have a word, in their order."""
    return [mode for mode in modes_standing(block, head.kind) if head.book[MODES.index(mode)] > 0]


def is_choice_for(head, shape, block, thing):
    """As is_choice, for what was looked at."""
    if not isinstance(thing, tuple) or thing == () or thing[0] not in modes_for(head, block):
        return False
    mode = thing[0]
    if mode == "still":
        return len(thing) == 1
    if mode == "copy":
        fits = len(thing) == 5 and is_within(thing[1], 0, head.kind - 1) and is_vector(thing[2], head.reach)
    elif mode == "both":
        fits = len(thing) == 4 and is_vector(thing[1], head.reach)
    else:
        fits = len(thing) == 3
    return fits and are_levels(shape, block, thing[-2], thing[-1])


def are_levels(shape, block, way, levels):
    """Whether any two values are a way and its levels for the block."""
    if not isinstance(levels, tuple):
        return False
    if way == "none":
        return levels == ()
    many = len(spots_of(shape, block))
    return way in ("plain", "lifted") and len(levels) == many and all([is_told(level) for level in levels])


def vector_of(choice):
    """The vector of a choice with "copy" or "both", None for the others."""
    if choice[0] == "copy":
        return choice[2]
    return choice[1] if choice[0] == "both" else None


def last_behind(choice, last):
    """The last vector behind a block that is told by the choice."""
    vector = vector_of(choice)
    return last if vector is None else vector


def guesses_by(shape, block, choice, last, rows, references):
    """The guesses of a choice for the block's spots; rows are what was played so far."""
    mode = choice[0]
    if mode == "copy":
        return copy_of(shape, block, choice[2], references[choice[1]])
    if mode == "both":
        return both_of(shape, block, choice[1], references[0], references[1])
    if mode == "still":
        return copy_of(shape, block, last, references[0])
    return guesses_of(shape, block, mode, rows)


def rests_by(shape, block, choice, step):
    """The rests of a choice for the block's spots."""
    if choice[0] == "still" or choice[-2] == "none":
        return [0] * len(spots_of(shape, block))
    rests = [level * step for level in choice[-1]]
    return unlift_rests(shape, block, rests) if choice[-2] == "lifted" else rests


def lift_rests(shape, block, rests):
    """The rests of the block lifted, row by row."""
    return [number for row in lifted(in_rows(rests, len(columns_of(shape, block)))) for number in row]


def unlift_rests(shape, block, rests):
    """The rests of the block, row by row, that were lifted to these."""
    return [number for row in unlifted(in_rows(rests, len(columns_of(shape, block)))) for number in row]


def show_block(shape, step, block, choice, last, rows, references):
    """Put what the choice shows into the rows; whether no sample of a block that is told lifted had to be clipped."""
    guesses = guesses_by(shape, block, choice, last, rows, references)
    rests = rests_by(shape, block, choice, step)
    fits = True
    for (y, x), guess, rest in zip(spots_of(shape, block), guesses, rests):
        rows[y][x] = clipped(guess + rest, shape.low, shape.high)
        if choice[-2:-1] == ("lifted",) and rows[y][x] != guess + rest:
            fits = False
    return fits


def played(head, shape, telling, references):
    """The pair of the plane that is shown, and whether the telling fits, for what was looked at."""
    rows = [[shape.low] * shape.width for _ in range(shape.height)]
    last = STILL_VECTOR
    fits = True
    for block, choice in telling:
        fits = show_block(shape, step_of(head.loss), block, choice, last, rows, references) and fits
        last = last_behind(choice, last)
    return tuple([tuple(row) for row in rows]), fits


def quarter_bits(block):
    """The bits for quarters that come with a block that a telling has."""
    top, left, size = block
    larger = [other for other in sizes_at(top, left) if other > size]
    return QUARTERED * len(larger) + (WHOLE if size > 2 else "")


def choice_bits(head, words, choice, last):
    """The bits of a choice; words are those of the head's book, last is the last vector."""
    mode = choice[0]
    bits = words[mode]
    if mode == "copy" and head.kind == 2:
        bits += in_bits(choice[1], 1)
    vector = vector_of(choice)
    if vector is not None and head.reach > 0:
        bits += long_bits(vector[0] - last[0]) + long_bits(vector[1] - last[1])
    if mode != "still":
        bits += WAYS[choice[-2]] + "".join([grade_bits(level, head.grade) for level in choice[-1]])
    return bits


def bits_told(head, telling):
    """As bits_of, for what was looked at."""
    words = words_of(head.book)
    last = STILL_VECTOR
    parts = []
    for block, choice in telling:
        parts.append(quarter_bits(block) + choice_bits(head, words, choice, last))
        last = last_behind(choice, last)
    return "".join(parts)


def take_telling(head, shape, tape):
    """The telling that the tape has here."""
    words = words_of(head.book)
    pairs = []
    last = STILL_VECTOR
    waiting = roots_of(shape)
    while len(waiting) > 0:
        block, choice, waiting = take_block(head, words, shape, waiting, last, tape)
        pairs.append((block, choice))
        last = last_behind(choice, last)
    return tuple(pairs)


def take_block(head, words, shape, waiting, last, tape):
    """The block, which comes of the first that waits, and the choice that the tape has here, and what waits behind."""
    while waiting[0][2] > 2 and tape.pick({WHOLE: WHOLE, QUARTERED: QUARTERED}) == QUARTERED:
        waiting = quarters_of(shape, waiting[0]) + waiting[1:]
    return waiting[0], take_choice(head, words, shape, waiting[0], last, tape), waiting[1:]


def take_choice(head, words, shape, block, last, tape):
    """The choice for the block that the tape has here."""
    mode = tape.pick({name: words[name] for name in modes_for(head, block)})
    if mode == "still":
        return (mode,)
    start = (mode,)
    if mode == "copy":
        start += (tape.pick({0: "0", 1: "1"}) if head.kind == 2 else 0,)
    if mode in ("copy", "both"):
        start += (take_vector(head, last, tape),)
    way = tape.pick(dict(WAYS))
    many = 0 if way == "none" else len(spots_of(shape, block))
    return start + (way, tuple([tape.level(head.grade) for _ in range(many)]))


def take_vector(head, last, tape):
    """The vector that the tape has here."""
    if head.reach == 0:
        return STILL_VECTOR
    numbers = list(range(-head.reach, head.reach + 1))
    dy = tape.pick({number: long_bits(number - last[0]) for number in numbers})
    dx = tape.pick({number: long_bits(number - last[1]) for number in numbers})
    return dy, dx
