"""Heads, tellings and reels that come by chance, and what they show and how they are told, plainly."""

from helpers import all_blocks, plane_of
from pricedreels.bits import grade_bits, long_bits
from pricedreels.copies import both_copied, copied
from pricedreels.grids import Shape, cells, place_of, quarters, roots, spots
from pricedreels.guesses import guess, modes_at
from pricedreels.heads import Head, head_bits, words_of
from pricedreels.lifts import unlifted
from pricedreels.reels import Reel

MODES = ["flat", "left", "up", "middle", "mean", "copy", "both", "still"]
WITHIN = MODES[:5]
FULL = (3,) * 8
WAY_BITS = {"none": "0", "plain": "10", "lifted": "11"}


def book_for(kind, length=3):
    """The book with words of this length for all modes that have one in the kind."""
    return (length,) * 5 + (length if kind else 0, length if kind == 2 else 0, length if kind else 0)


def full_head(kind, loss=0, grade=0, reach=1):
    return Head(kind, loss, grade, reach, book_for(kind))


def chance_book(rng, kind):
    while True:
        book = [rng.choice([0, 1, 2, 3, 3, 4, 5, 7]) for _ in range(8)]
        if kind < 1:
            book[5] = book[7] = 0
        if kind < 2:
            book[6] = 0
        if book[0] and sum(2 ** (7 - length) for length in book if length) <= 128:
            return tuple(book)


def chance_head(rng, kind=None, loss=None, reach=None):
    kind = rng.randrange(3) if kind is None else kind
    loss = rng.randrange(8) if loss is None else loss
    reach = rng.randrange(5) if reach is None else reach
    book = rng.choice([book_for(kind), chance_book(rng, kind)])
    return Head(kind, loss, rng.randrange(8), reach, book)


def vectors(reach):
    return [(dy, dx) for dy in range(-reach, reach + 1) for dx in range(-reach, reach + 1)]


def standing(head, shape, block):
    """The modes that can stand at the block and have a word."""
    return [mode for mode in modes_at(shape, block, head.kind) if head.book[MODES.index(mode)]]


def starts(head, shape, block):
    """The beginnings of all choices for the block, in the order of steps."""
    found = []
    for mode in standing(head, shape, block):
        if mode == "copy":
            found += [(mode, reference, vector) for reference in range(head.kind) for vector in vectors(head.reach)]
        elif mode == "both":
            found += [(mode, vector) for vector in vectors(head.reach)]
        else:
            found.append((mode,))
    return found


def chance_level(rng, most):
    return rng.choice([0, 0, 0, 1, -1, rng.randint(-most, most), rng.choice([-32767, 32767])])


def chance_choice(rng, head, shape, block, most=12):
    start = rng.choice(starts(head, shape, block))
    if start == ("still",):
        return start
    way = rng.choice(["none", "plain", "lifted"])
    if way == "none":
        return start + ("none", ())
    return start + (way, tuple(chance_level(rng, most) for _ in spots(shape, block)))


def chance_blocks(rng, shape, deep=0.5):
    found, waiting = [], roots(shape)
    while waiting:
        block = waiting.pop(0)
        parts = quarters(shape, block)
        if parts and rng.random() < deep:
            waiting = parts + waiting
        else:
            found.append(block)
    return found


def chance_telling(rng, head, shape, most=12, deep=0.5):
    return tuple((block, chance_choice(rng, head, shape, block, most)) for block in chance_blocks(rng, shape, deep))


def chance_shape(rng, most=9):
    low = rng.randint(-9, 5)
    return Shape(rng.randint(1, most), rng.randint(1, most), low, rng.randint(low, low + 40))


def chance_references(rng, head, shape):
    return [plane_of(shape, rng) for _ in range(head.kind)]


def chance_reel(rng, shape, many, kinds=(0, 1, 2), loss=None):
    shows = rng.sample(range(many), many)
    items = []
    for number in range(many):
        head = chance_head(rng, rng.choice(kinds) if number else 0, loss)
        leans = tuple(rng.randrange(number) for _ in range(head.kind))
        items.append((shows[number], leans, head, chance_telling(rng, head, shape)))
    return Reel(shape, items)


def fitted(shape, rows):
    """A plane of what was shown so far, with low everywhere else."""
    return tuple(tuple(shape.low if number is None else number for number in row) for row in rows)


def guesses_for(shape, block, choice, last, plane, references):
    """The guesses of a choice."""
    if choice[0] == "copy":
        return copied(shape, block, choice[2], references[choice[1]])
    if choice[0] == "both":
        return both_copied(shape, block, choice[1], references[0], references[1])
    if choice[0] == "still":
        return copied(shape, block, last, references[0])
    return guess(shape, block, choice[0], plane)


def rests_for(shape, block, choice, step):
    """The rests of a choice."""
    if choice[0] == "still" or choice[-2] == "none":
        return [0] * len(spots(shape, block))
    stepped = [level * step for level in choice[-1]]
    if choice[-2] == "plain":
        return stepped
    width = len({x for _, x in spots(shape, block)})
    rows = tuple(tuple(stepped[at:at + width]) for at in range(0, len(stepped), width))
    return [number for row in unlifted(rows) for number in row]


def vector_behind(choice, last):
    return choice[2] if choice[0] == "copy" else choice[1] if choice[0] == "both" else last


def plain_play(head, shape, telling, references):
    """The plane that is shown, and whether the telling fits."""
    rows = [[None] * shape.width for _ in range(shape.height)]
    last, fits = (0, 0), True
    for block, choice in telling:
        guesses = guesses_for(shape, block, choice, last, fitted(shape, rows), references)
        rests = rests_for(shape, block, choice, 2 * head.loss + 1)
        for (y, x), guessed, rest in zip(spots(shape, block), guesses, rests):
            rows[y][x] = min(max(guessed + rest, shape.low), shape.high)
            if choice[0] != "still" and choice[-2] == "lifted" and rows[y][x] != guessed + rest:
                fits = False
        last = vector_behind(choice, last)
    return tuple(tuple(row) for row in rows), fits


def items_of_choice(head, choice, last):
    """The items of the bits of a choice."""
    mode = choice[0]
    found = [words_of(head.book)[mode]]
    if mode == "copy" and head.kind == 2:
        found.append(str(choice[1]))
    if mode in ("copy", "both") and head.reach:
        vector = vector_behind(choice, last)
        found += [long_bits(vector[0] - last[0]), long_bits(vector[1] - last[1])]
    if mode != "still":
        found.append(WAY_BITS[choice[-2]])
        found += [grade_bits(level, head.grade) for level in choice[-1]]
    return found


def items_of_telling(head, shape, telling):
    """The items of the bits of a telling."""
    told, found, state = dict(telling), [], {"last": (0, 0)}

    def tell(block):
        if block in told:
            found.extend(["0"] if block[2] > 2 else [])
            found.extend(items_of_choice(head, told[block], state["last"]))
            state["last"] = vector_behind(told[block], state["last"])
        else:
            found.append("1")
            for quarter in quarters(shape, block):
                tell(quarter)
    for root in roots(shape):
        tell(root)
    return found


def plain_bits(head, shape, telling):
    return "".join(items_of_telling(head, shape, telling))


def in_many(number, many):
    return format(number, f"0{many}b") if many else ""


def items_of_reel(reel):
    """The items of the bits of a reel, those of the start first."""
    shape, many = reel.shape, len(reel.entries)
    found = [in_many(shape.height - 1, 4), in_many(shape.width - 1, 4), in_many(shape.low + 512, 10),
             in_many(shape.high + 512, 10), in_many(many - 1, 5)]
    for number, (show, leans, head, telling) in enumerate(reel.entries):
        found += [in_many(show, (many - 1).bit_length()), head_bits(head)]
        found += [in_many(lean, max(number - 1, 0).bit_length()) for lean in leans]
        found += items_of_telling(head, shape, telling)
    return found


def planes_told(reel):
    """The planes of the items of a reel, in the order of telling."""
    found = []
    for show, leans, head, telling in reel.entries:
        found.append(plain_play(head, reel.shape, telling, [found[lean] for lean in leans])[0])
    return found


def ordered_blocks(shape):
    """All blocks, by their places, the larger ones first."""
    return sorted(all_blocks(shape), key=lambda block: (place_of(shape, block)[0], -block[2]))


def many_cells(shape):
    return len(cells(shape))


def chance_piece(rng, shape, memory, kinds=(0, 1, 1, 2), most=12):
    head = chance_head(rng, rng.choice(kinds))
    return head, chance_telling(rng, head, shape, most), tuple(rng.randrange(memory) for _ in range(head.kind))


def chance_stretch(rng, shape, memory, many, kinds=(0, 1, 1, 2), most=12):
    return [chance_piece(rng, shape, memory, kinds, most) for _ in range(many)]


def chance_store(rng, shape, memory):
    return [plane_of(shape, rng) for _ in range(memory)]


def plain_led(shape, stretch, store, lost=None):
    """What the pieces show, and the store behind; lost are planes in the place of pieces, by their indexes."""
    shown, store = [], list(store)
    for index, (head, telling, sources) in enumerate(stretch):
        plane = plain_play(head, shape, telling, [store[source] for source in sources])[0]
        plane = (lost or {}).get(index, plane)
        shown.append(plane)
        store = [plane] + store[:-1]
    return shown, store


def looked_within(shape, block, mode, spot):
    """The spots at which the guess of a mode within looks for one spot."""
    top, left, _ = block
    y, x = spot
    if mode == "left":
        return {(y, left - 1)}
    if mode == "up":
        return {(top - 1, x)}
    if mode == "middle":
        return {(y, left - 1), (top - 1, x), (top - 1, left - 1)}
    if mode == "mean":
        return ({(row, left - 1) for row, _ in spots(shape, block) if left}
                | {(top - 1, column) for _, column in spots(shape, block) if top})
    return set()


def looked_copied(shape, spot, vector):
    """The spots of a plane from which the copy at one spot is made."""
    places = [2 * at + by for at, by in zip(spot, vector)]
    sides = [{min(max(at, 0), most - 1) for at in {place // 2, -(-place // 2)}}
             for place, most in zip(places, (shape.height, shape.width))]
    return {(y, x) for y in sides[0] for x in sides[1]}


def looked_by_telling(shape, telling):
    """For each spot at which spots of the picture, and of which references, its guess looks, as two sets."""
    found, last = {}, (0, 0)
    for block, choice in telling:
        for spot in spots(shape, block):
            mode = choice[0]
            outside = set()
            if mode in ("copy", "still"):
                number, vector = (choice[1], choice[2]) if mode == "copy" else (0, last)
                outside = {(number,) + other for other in looked_copied(shape, spot, vector)}
            elif mode == "both":
                dy, dx = choice[1]
                outside = {(0,) + other for other in looked_copied(shape, spot, (dy, dx))}
                outside |= {(1,) + other for other in looked_copied(shape, spot, (-dy, -dx))}
            found[spot] = (looked_within(shape, block, mode, spot), outside)
        last = vector_behind(choice, last)
    return found
