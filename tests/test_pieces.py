import itertools
import random
import unittest

from helpers import NOTHINGS, SHAPE, all_spots, flat, plane_of, raises, wrong_numbers, wrong_planes
from pricedreels.bits import is_bits
from pricedreels.errors import BadBits, BadItem, BadSpot, BadState, BadStream, NotNow
from pricedreels.grids import Shape, quarters, roots, spots
from pricedreels.heads import Head, head_bits
from pricedreels.pieces import Reader, is_state, reader_of
from pricedreels.reels import Reel, is_begun, item_sizes, read_reel, reel_bits, shown_planes, told_planes
from told import (FULL, chance_head, chance_reel, chance_shape, chance_telling, in_many, items_of_choice, items_of_reel,
                  plain_play, vector_behind)

PAIR = Shape(2, 2, 0, 9)
ROOT = (0, 0, 8)
FLAT_HEAD = Head(0, 0, 0, 0, (1, 0, 0, 0, 0, 0, 0, 0))
STILL_HEAD = Head(1, 0, 0, 0, (1, 0, 0, 0, 0, 0, 0, 1))
EXAMPLE = Reel(PAIR, [(0, (), FLAT_HEAD, ((ROOT, ("flat", "none", ())),)), (1, (0,), STILL_HEAD, ((ROOT, ("still",)),))])
BITS = reel_bits(EXAMPLE)
START = BITS[:33]
MIDDLE = ((4, 4), (4, 4))
NONES = ((None, None), (None, None))
WRONG_SPOTS = NOTHINGS + [SHAPE, (0, 2), (2, 0), (-1, 0), (0, -1), (0,), (0, 0, 0), [0, 0], (True, 0), (0, False), "00"]
# Starts of which the highest number is below the lowest one, and bits that begin no reel at all.
NO_STARTS = [START[:8] + in_many(5, 10) + in_many(4, 10), START[:8] + "1" * 10 + "0" * 10 + "00000" + "0" * 99]


def fed(bits):
    reader = Reader()
    reader.feed(bits)
    return reader


def units_of(reel):
    """The bits of each unit of the reel, with what it adds: None for the start, a number for a beginning, or a block."""
    items = items_of_reel(reel)
    found = [("".join(items[:5]), None, None)]
    for number, (show, leans, head, telling) in enumerate(reel.entries):
        many = len(reel.entries)
        told = in_many(show, (many - 1).bit_length()) + head_bits(head)
        told += "".join(in_many(lean, max(number - 1, 0).bit_length()) for lean in leans)
        found.append((told, number, None))
        chosen, last, ahead = dict(telling), (0, 0), ""
        waiting = roots(reel.shape)
        while waiting:
            block = waiting.pop(0)
            if block in chosen:
                ahead += "0" if block[2] > 2 else ""
                found.append((ahead + "".join(items_of_choice(head, chosen[block], last)), number, block))
                last, ahead = vector_behind(chosen[block], last), ""
            else:
                ahead += "1"
                waiting = quarters(reel.shape, block) + waiting
    return found


def small_reels(rng, many):
    for _ in range(many):
        shape = chance_shape(rng, rng.choice([1, 2, 3, 5]))
        yield chance_reel(rng, shape, rng.choice([1, 1, 2, 3, 5]))


def fewest_to_end(reel, many_units):
    """The fewest bits that make a reel behind these units of one, item by item and block by block."""
    units = units_of(reel)[:many_units]
    if not units:
        return 33 + 35 + 3
    many, shape = len(reel.entries), reel.shape
    begun = [number for _, number, block in units if number is not None and block is None]
    place_bits, total = (many - 1).bit_length(), 0
    for number in range(many):
        if number not in begun:
            lean = max(number - 1, 0).bit_length()
            alone, leaning = 3 * len(roots(shape)), lean + 2 * len(roots(shape))
            total += place_bits + 35 + (min(alone, leaning) if number else alone)
    if begun:
        number = begun[-1]
        head, told = reel.entries[number][2], {block for _, at, block in units if at == number and block}
        seen = {spot for block in told for spot in spots(shape, block)}
        waiting = roots(shape)
        while waiting:
            block = waiting.pop(0)
            if block in told:
                continue
            if set(spots(shape, block)) & seen:
                waiting = quarters(shape, block) + waiting
                continue
            top, left, size = block
            costs = [head.book[0] + 1]
            costs += [head.book[1] + 1] if left and head.book[1] else []
            costs += [head.book[2] + 1] if top and head.book[2] else []
            costs += [head.book[3] + 1] if top and left and head.book[3] else []
            costs += [head.book[4] + 1] if (top or left) and head.book[4] else []
            vector = 2 if head.reach else 0
            costs += [head.book[5] + vector + (2 if head.kind == 2 else 1)] if head.book[5] else []
            costs += [head.book[6] + vector + 1] if head.book[6] else []
            costs += [head.book[7]] if head.book[7] else []
            total += min(costs) + (1 if size > 2 else 0)
    return total


class Example(unittest.TestCase):
    def test_sizes(self):
        self.assertEqual((len(BITS), item_sizes(EXAMPLE)), (110, [39, 38]))

    def test_71_bits(self):
        reader = fed(BITS[:71])
        self.assertEqual((reader.loose(), reader.sight(0), len(reader.ending()), reader.shown()), ("00", NONES, 41, []))
        self.assertEqual((reader.standing(), reader.many_told(), reader.start()), ("begun", 0, (PAIR, 2)))
        self.assertEqual(reader.state(), ((2, 2, 0, 9, 2), (), BITS[33:71]))

    def test_72_bits(self):
        reader = fed(BITS[:72])
        self.assertEqual((reader.sight(0), reader.shown(), reader.sight(1)), (MIDDLE, [MIDDLE], NONES))
        self.assertEqual(reader.state(), ((2, 2, 0, 9, 2), ((0, MIDDLE),), ""))
        self.assertEqual((reader.loose(), len(reader.ending()), reader.many_told()), ("", 38, 1))

    def test_109_bits(self):
        reader = fed(BITS[:109])
        self.assertEqual((reader.loose(), reader.ending(), reader.many_told()), ("0", "01", 1))
        one, other = reader.doubt(1, (0, 0))
        planes = [told_planes(read_reel(BITS[:108] + part))[1][0][0] for part in (one, other)]
        self.assertNotEqual(*planes)
        self.assertIs(reader.is_doubt(1, (0, 0), (one, other)), True)
        self.assertIsNone(reader.doubt(0, (0, 0)))

    def test_whole(self):
        reader = fed(BITS)
        self.assertEqual((reader.standing(), reader.loose(), reader.ending(), reader.shown()), ("whole", "", "", [MIDDLE] * 2))
        self.assertIsNone(reader.doubt(1, (1, 1)))
        reader.feed("")
        self.assertEqual(reader.standing(), "whole")
        reader.feed("0")
        self.assertEqual((reader.standing(), reader.loose(), reader.ending(), reader.shown()), ("none", "0", "", [MIDDLE] * 2))
        self.assertEqual(reader.state(), ((2, 2, 0, 9, 2), ((0, MIDDLE), (1, MIDDLE)), "0"))


class Reading(unittest.TestCase):
    def test_nothing_came(self):
        reader = Reader()
        for _ in range(2):
            self.assertEqual((reader.standing(), reader.loose(), reader.start(), reader.many_told()), ("begun", "", None, 0))
            self.assertEqual((reader.shown(), reader.state()), ([], ((), (), "")))
            self.assertEqual(len(reader.ending()), 71)
            self.assertEqual(len(read_reel(reader.ending())), 1)
            reader.feed("")

    def test_bit_by_bit_at_each_beginning(self):
        rng = random.Random(501)
        for reel in small_reels(rng, 25):
            bits, units = reel_bits(reel), units_of(reel)
            self.assertEqual("".join(part for part, _, _ in units), bits)
            ends = list(itertools.accumulate(len(part) for part, _, _ in units))
            told, reader = told_planes(reel), Reader()
            for many in range(len(bits) + 1):
                solid = [end for end in ends if end <= many]
                whole = units[:len(solid)]
                self.assertEqual(reader.loose(), bits[(solid or [0])[-1]:many])
                self.assertEqual(reader.standing(), "whole" if many == len(bits) else "begun")
                self.assertEqual(reader.start(), (reel.shape, len(reel)) if solid else None)
                if many in ends or many == 0 or rng.random() < 0.02:
                    self.check_all(rng, reel, told, whole, reader, bits[:(solid or [0])[-1]])
                    self.assertEqual(fed(bits[:many]), reader)
                reader.feed(bits[many:many + 1])
            self.assertEqual(reader.shown(), shown_planes(reel))
            self.assertEqual((reader.loose(), reader.ending()), ("", ""))

    def test_several_roots(self):
        # With several roots it is cheaper to lean on another item, if not too many items are told.
        rng = random.Random(506)
        for shape, many in ((Shape(9, 3, 0, 9), 6), (Shape(16, 9, -1, 1), 18), (Shape(1, 16, 0, 4), 3), (Shape(9, 9, 2, 2), 2)):
            reel = chance_reel(rng, shape, many)
            bits, told = reel_bits(reel), told_planes(reel)
            units = units_of(reel)
            ends = list(itertools.accumulate(len(part) for part, _, _ in units))
            for count in sorted({0, 1, 2, len(units)} | set(rng.sample(range(len(units)), 6))):
                solid = bits[:([0] + ends)[count]]
                self.check_all(rng, reel, told, units[:count], fed(solid), solid)

    def check_all(self, rng, reel, told, whole, reader, solid):
        shape, many = reel.shape, len(reel)
        ending = reader.ending()
        self.assertEqual(read_reel(solid + ending), read_reel(solid + ending))
        self.assertEqual(len(ending), fewest_to_end(reel, len(whole)))
        done = [number for number in range(many) if all(
            unit in whole for unit in units_of(reel) if unit[1] == number) and whole]
        self.assertEqual(reader.many_told(), len(done))
        if not whole:
            raises(self, NotNow, reader.sight, [0], word="start")
            return
        for number in range(many):
            seen = {spot for _, at, block in whole if at == number and block for spot in spots(shape, block)}
            expected = tuple(tuple(told[number][y][x] if (y, x) in seen or shape.low == shape.high else None
                                   for x in range(shape.width)) for y in range(shape.height))
            self.assertEqual(reader.sight(number), expected)
            spot = rng.choice(all_spots(shape))
            pair = reader.doubt(number, spot)
            if expected[spot[0]][spot[1]] is not None:
                self.assertIsNone(pair)
            else:
                planes = [told_planes(read_reel(solid + part))[number] for part in pair]
                self.assertNotEqual(planes[0][spot[0]][spot[1]], planes[1][spot[0]][spot[1]])
                self.assertIs(reader.is_doubt(number, spot, pair), True)
                self.assertIs(reader.is_doubt(number, spot, pair[::-1]), True)
                self.assertIs(reader.is_doubt(number, spot, pair[:1] * 2), False)
        shows = {reel.entries[number][0]: number for number in done}
        place = 0
        while place in shows:
            place += 1
        expected = [told[shows[at]] for at in range(place)]
        if shape.low == shape.high:
            expected = [flat(shape, shape.low)] * many
        self.assertEqual(reader.shown(), expected)

    def test_in_any_pieces(self):
        rng = random.Random(502)
        for reel in small_reels(rng, 30):
            bits = reel_bits(reel) + rng.choice(["", "0", "10"])
            bits = bits[:rng.randint(0, len(bits))]
            if rng.random() < 0.3 and bits:
                at = rng.randrange(len(bits))
                bits = bits[:at] + ("0" if bits[at] == "1" else "1") + bits[at + 1:]
            reader, at = Reader(), 0
            while at < len(bits):
                step = rng.randint(0, 40)
                reader.feed(bits[at:at + step])
                at += step
            other = fed(bits)
            self.assertEqual(reader, other)
            self.assertEqual(reader.state(), other.state())
            for ask in (Reader.standing, Reader.loose, Reader.start, Reader.many_told, Reader.shown, Reader.ending):
                self.assertEqual(ask(reader), ask(other))

    def test_standing_by_the_reels(self):
        rng = random.Random(503)
        kinds = {}
        for _ in range(400):
            reel = next(small_reels(rng, 1))
            bits = reel_bits(reel)[:rng.randint(0, 300)]
            bits += "".join(rng.choice("01") for _ in range(rng.choice([0, 0, 1, 5, 40])))
            try:
                read_reel(bits)
                expected = "whole"
            except BadStream:
                expected = "begun" if is_begun(bits) else "none"
            kinds[expected] = kinds.get(expected, 0) + 1
            reader = fed(bits)
            self.assertEqual(reader.standing(), expected)
            solid = bits[:len(bits) - len(reader.loose())]
            read_reel(solid + reader.ending())
            if expected == "none":
                state = reader.state()
                reader.feed("".join(rng.choice("01") for _ in range(50)))
                self.assertEqual(reader.standing(), "none")
                self.assertEqual((reader.state()[:2], reader.state()[2][:len(state[2])]), (state[:2], state[2]))
        self.assertEqual(sorted(kinds), ["begun", "none", "whole"])
        for bits in NO_STARTS:
            reader = fed(bits)
            self.assertEqual((reader.standing(), reader.loose(), reader.start()), ("none", bits, None))
            self.assertEqual((reader.state(), len(reader.ending()), reader.shown()), (((), (), bits), 71, []))

    def test_what_is_in_sight_stays(self):
        rng = random.Random(504)
        for reel in small_reels(rng, 10):
            bits, reader = reel_bits(reel), Reader()
            before, shown = {}, []
            for sign in bits[:400] + "".join(rng.choice("01") for _ in range(60)):
                reader.feed(sign)
                if reader.start() is not None:
                    for number in range(len(reel)):
                        now = reader.sight(number)
                        for (y, x), sample in before.get(number, {}).items():
                            self.assertEqual(now[y][x], sample)
                        before[number] = {(y, x): now[y][x] for y, x in all_spots(reel.shape) if now[y][x] is not None}
                    self.assertEqual(reader.shown()[:len(shown)], shown)
                    shown = reader.shown()

    def test_no_fewer_bits_make_a_reel(self):
        # All bits that are shorter than an ending make no reel.
        book = (3, 2, 2, 0, 0, 2, 0, 0)
        head = Head(1, 0, 0, 1, book)
        telling = (((0, 0, 2), ("flat", "none", ())), ((0, 2, 2), ("left", "none", ())))
        shape = Shape(1, 4, 0, 9)
        reel = Reel(shape, [(0, (), FLAT_HEAD, ((ROOT, ("flat", "none", ())),)), (1, (0,), head, telling)])
        bits = reel_bits(reel)
        for many in range(len(bits) - 9, len(bits) + 1):
            reader = fed(bits[:many])
            solid, ending = bits[:many][:many - len(reader.loose())], reader.ending()
            for length in range(len(ending) + 1):
                found = 0
                for signs in itertools.product("01", repeat=length):
                    found += fed(solid + "".join(signs)).standing() == "whole"
                self.assertEqual(found > 0, length == len(ending), (many, length))
        for book in [(1, 0, 0, 0, 0, 1, 0, 0), (2, 0, 0, 0, 0, 0, 1, 0), (3, 0, 0, 0, 0, 2, 1, 3), (7, 0, 0, 0, 0, 0, 0, 7), FULL]:
            for kind in (1, 2):
                if kind == 1 and book[6]:
                    continue
                for reach in (0, 1):
                    item = (1, (0,) * kind, Head(kind, 0, 0, reach, book), ((ROOT, ("flat", "none", ())),))
                    bits = reel_bits(Reel(shape, [reel.entries[0], item]))
                    reader = fed(bits[:len(bits) - item_sizes(Reel(shape, [reel.entries[0], item]))[1] + 36])
                    ending = reader.ending()
                    self.assertEqual(reader.loose(), "")
                    solid = bits[:len(bits) - item_sizes(Reel(shape, [reel.entries[0], item]))[1] + 36]
                    lengths = [length for length in range(1, 8) for signs in itertools.product("01", repeat=length)
                               if fed(solid + "".join(signs)).standing() == "whole"]
                    if lengths or len(ending) <= 7:
                        self.assertEqual(len(ending), min(lengths))

    def test_one_number_alone(self):
        shape = Shape(2, 3, 5, 5)
        reel = Reel(shape, [(1, (), FLAT_HEAD, ((ROOT, ("flat", "none", ())),))] + [
            (0, (), FLAT_HEAD, ((ROOT, ("flat", "none", ())),))])
        bits = reel_bits(reel)
        for many in range(len(bits) + 1):
            reader = fed(bits[:many])
            if many < 33:
                self.assertEqual(reader.shown(), [])
            else:
                self.assertEqual(reader.shown(), [flat(shape, 5)] * 2)
                self.assertEqual([reader.sight(number) for number in (0, 1)], [flat(shape, 5)] * 2)
                self.assertIsNone(reader.doubt(1, (1, 2)))
                ending = reader.ending()
                self.assertIs(reader.is_doubt(1, (0, 0), (ending, ending)), False)


class Wrong(unittest.TestCase):
    def test_feeding(self):
        reader = fed(BITS[:50])
        for thing in [None, True, 0, 1, "2", "0 1", "01\n", "ab", [], ["0"], ("0",), {}, 0.5, SHAPE, "0b1", "-1"]:
            raises(self, BadBits, reader.feed, [thing])
        self.assertEqual(reader, fed(BITS[:50]))

    def test_items_and_spots(self):
        early, late = fed(BITS[:32]), fed(BITS[:60])
        pair = ("0", "1")
        for ask, more in ((Reader.sight, []), (Reader.doubt, [(0, 0)]), (Reader.is_doubt, [(0, 0), pair])):
            for number in [0, 1, 2, None, True]:
                raises(self, NotNow, ask, [early, number] + more, word="start")
                if more:
                    raises(self, NotNow, ask, [early, number, None] + more[1:], word="start")
            for number in wrong_numbers(0, 1):
                raises(self, BadItem, ask, [late, number] + more, at=None)
                if more:
                    raises(self, BadItem, ask, [late, number, None] + more[1:], at=None)
            ask(late, 1, *more)
            if more:
                for spot in WRONG_SPOTS:
                    raises(self, BadSpot, ask, [late, 0, spot] + more[1:])
                    raises(self, BadSpot, ask, [fed(BITS), 0, spot] + more[1:])

    def test_is_doubt_of_any_value(self):
        reader = fed(BITS[:109])
        one, other = reader.doubt(1, (0, 1))
        for thing in NOTHINGS + [SHAPE, [one, other], (one,), (one, other, one), (one, None), (None, other), (one, one), (other, other),
                                 (one + "0", other), (one, other + "1"), (one[:-1], other), (one, other[:-1]), (one, ""), ("2", one),
                                 one, {one: other}, (int(one), other)]:
            self.assertIs(reader.is_doubt(1, (0, 1), thing), False, thing)
        self.assertIs(reader.is_doubt(1, (0, 1), (one, other)), True)
        # They differ at this spot alone.
        self.assertIs(reader.is_doubt(1, (0, 0), (one, other)), False)
        self.assertIs(reader.is_doubt(0, (0, 1), (one, other)), False)
        # Without the loose bits, and not with them.
        self.assertIs(reader.is_doubt(1, (0, 1), (one[1:], other[1:])), False)


class States(unittest.TestCase):
    def test_taken_up_again(self):
        rng = random.Random(511)
        for reel in small_reels(rng, 40):
            bits = reel_bits(reel) + rng.choice(["", "011"])
            at = rng.randint(0, len(bits))
            reader = fed(bits[:at])
            state = reader.state()
            self.assertIs(is_state(state), True)
            again = reader_of(state)
            self.assertEqual(again, reader)
            self.assertEqual(again.state(), state)
            start, done, rest = state
            told = told_planes(reel)
            self.assertEqual(start, () if at < 33 else (
                reel.shape.height, reel.shape.width, reel.shape.low, reel.shape.high, len(reel)))
            self.assertEqual(done, tuple((reel.entries[k][0], told[k]) for k in range(reader.many_told())))
            ends = [0] if at < 33 else list(itertools.accumulate([33] + item_sizes(reel)))
            self.assertEqual(rest, bits[max(end for end in ends if end <= at):at])
            for _ in range(3):
                for each in (reader, again):
                    self.assertEqual((each.standing(), each.loose(), each.shown(), each.ending()), (
                        reader.standing(), reader.loose(), reader.shown(), reader.ending()))
                    if each.start() is not None:
                        for number in range(len(reel)):
                            self.assertEqual(each.sight(number), reader.sight(number))
                            pair = reader.doubt(number, (0, 0))
                            self.assertEqual(each.doubt(number, (0, 0)) is None, pair is None)
                            if pair is not None:
                                self.assertIs(each.is_doubt(number, (0, 0), pair), True)
                more = bits[at:at + 30]
                at += 30
                reader.feed(more)
                again.feed(more)
                self.assertEqual(reader, again)

    def test_any_planes(self):
        # Planes that are told are any planes: what comes leans on them.
        rng = random.Random(512)
        for _ in range(20):
            shape, many = chance_shape(rng, 5), rng.randint(2, 5)
            shows = rng.sample(range(many), many)
            number = rng.randrange(many)
            done = tuple((shows[at], plane_of(shape, rng)) for at in range(number))
            state = ((shape.height, shape.width, shape.low, shape.high, many), done, "")
            self.assertIs(is_state(state), True)
            reader = reader_of(state)
            self.assertEqual([reader.sight(at) for at in range(number)], [plane for _, plane in done])
            head = chance_head(rng, 0 if number == 0 else None)
            leans = tuple(rng.randrange(number) for _ in range(head.kind))
            telling = chance_telling(rng, head, shape)
            place = in_many(shows[number], (many - 1).bit_length())
            told = place + head_bits(head) + "".join(in_many(lean, max(number - 1, 0).bit_length()) for lean in leans)
            reader.feed(told + "".join(part for part, at, block in units_of(Reel(shape, [(0, (), head, telling)])) if block)
                        if head.kind == 0 else told + telling_bits(head, shape, telling))
            plane = plain_play(head, shape, telling, [done[lean][1] for lean in leans])[0]
            self.assertEqual(reader.state(), (state[0], done + ((shows[number], plane),), ""))

    def test_what_is_no_state(self):
        start, done = (2, 2, 0, 9, 2), ((0, MIDDLE),)
        good = [((), (), ""), ((), (), START[:-1]), ((), (), NO_STARTS[0]), (start, (), ""), (start, done, BITS[72:-1]),
                (start, ((1, MIDDLE),), "1"), (start, ((1, MIDDLE), (0, MIDDLE)), "0110"), (start, (), "1" * 40),
                ((1, 1, -512, 511, 1), (), "0"), ((16, 16, 0, 0, 32), (), ""), (start, (), BITS[33:71])]
        for thing in good:
            self.assertIs(is_state(thing), True, thing)
            self.assertEqual(reader_of(thing).state(), thing)
        wrongs = NOTHINGS + [SHAPE, list(good[0]), ((), ()), ((), (), "", ""), ((), done, ""), ((), [], ""), ([], (), ""),
                             ((), (), START), ((), (), BITS), ((), (), "2"), ((), (), None), ((), (), ["0"]), (None, (), ""),
                             (start, (), BITS[33:72]), (start, (), BITS[33:]), (start, done, BITS[72:]), (start, list(done), ""),
                             (start, done * 2, ""), (start, ((0, MIDDLE), (1, MIDDLE), (2, MIDDLE)), ""), (start, (0,), ""),
                             (start, ((0, MIDDLE), None), ""), (start, ((2, MIDDLE),), ""), (start, ((-1, MIDDLE),), ""),
                             (start, ((False, MIDDLE),), ""), (start, ((0,),), ""), (start, ((0, MIDDLE, 0),), ""),
                             (start, ([0, MIDDLE],), ""), (start, None, ""), (start, done, None), (start, done, 0), (start, done, b""),
                             (start, "", ""), (start, {}, ""), (start[:4], (), ""), (start + (0,), (), ""), (list(start), (), "")]
        for at in range(5):
            for part in (None, True, False, "2", -513, 512, 100, [2], (2,)):
                wrongs.append((start[:at] + (part,) + start[at + 1:], (), ""))
        wrongs += [((0, 2, 0, 9, 2), (), ""), ((2, 17, 0, 9, 2), (), ""), ((2, 2, 5, 4, 2), (), ""), ((2, 2, 0, 9, 0), (), ""),
                   ((2, 2, 0, 9, 33), (), ""), ((1, 2, 0, 9, 2), done, ""), ((2, 2, 0, 3, 2), done, "")]
        wrongs += [(start, ((0, plane),), "") for plane in wrong_planes(PAIR)]
        for thing in wrongs:
            if thing in (((2, 2, 0, 100, 2), (), ""), ((2, 2, -513, 9, 2), (), "")) and is_state(thing):
                continue
            self.assertIs(is_state(thing), False, thing)
            raises(self, BadState, reader_of, [thing])

    def test_readers_are_equal_if_their_states_are(self):
        one, other = fed(BITS[:80]), fed(BITS[:80])
        self.assertTrue(one == other)
        other.feed("0")
        self.assertFalse(one == other)
        for thing in NOTHINGS + [SHAPE, one.state(), BITS[:80]]:
            self.assertFalse(one == thing)
        # Pictures told in other ways are the same to a reader.
        told = Reel(PAIR, [(0, (), FLAT_HEAD, ((ROOT, ("flat", "plain", (0, 0, 0, 0))),))] + list(EXAMPLE.entries[1:]))
        bits = reel_bits(told)
        self.assertEqual(fed(bits[:77]).state(), fed(BITS[:72]).state())
        self.assertTrue(fed(bits[:77]) == fed(BITS[:72]))

    def test_each_reader_stands_alone(self):
        reader = fed(BITS[:72])
        again = reader_of(reader.state())
        again.feed(BITS[72:])
        self.assertEqual((reader.many_told(), again.many_told()), (1, 2))
        shown = again.shown()
        shown.clear()
        self.assertEqual(again.shown(), [MIDDLE] * 2)
        self.assertEqual(Reader().state(), ((), (), ""))
        self.assertTrue(is_bits(again.ending()))


def telling_bits(head, shape, telling):
    """The bits of a telling, unit by unit."""
    chosen, last, found, waiting = dict(telling), (0, 0), "", roots(shape)
    while waiting:
        block = waiting.pop(0)
        if block in chosen:
            found += ("0" if block[2] > 2 else "") + "".join(items_of_choice(head, chosen[block], last))
            last = vector_behind(chosen[block], last)
        else:
            found += "1"
            waiting = quarters(shape, block) + waiting
    return found


if __name__ == "__main__":
    unittest.main()
