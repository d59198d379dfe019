import itertools
import random
import unittest

from helpers import NOTHINGS, SHAPE, flat, raises, refuses, wrong_numbers, wrong_planes, wrong_shapes
from pricedreels.bits import long_bits
from pricedreels.errors import (BadAt, BadBits, BadItem, BadMany, BadPlace, BadReel, BadReferences, BadShape, BadShows,
                                BadStream)
from pricedreels.grids import Shape
from pricedreels.heads import Head, head_bits
from pricedreels.reels import (Reel, is_begun, item_sizes, needed, play_item, read_item, read_reel, read_start,
                               reel_bits, show_one, shown_planes, told_planes)
from told import (chance_head, chance_reel, chance_references, chance_shape, chance_telling, full_head, in_many,
                  items_of_reel, plain_play, planes_told)

PAIR = Shape(2, 2, 0, 9)
FLAT_HEAD = Head(0, 0, 0, 0, (1, 0, 0, 0, 0, 0, 0, 0))
STILL_HEAD = Head(1, 0, 0, 0, (1, 0, 0, 0, 0, 0, 0, 1))
BOTH_HEAD = Head(2, 0, 0, 0, (1, 0, 0, 0, 0, 0, 2, 2))
FLAT = (((0, 0, 8), ("flat", "none", ())),)
STILL = (((0, 0, 8), ("still",)),)
FIRST = (0, (), FLAT_HEAD, FLAT)
SECOND = (1, (0,), STILL_HEAD, STILL)
EXAMPLE = Reel(PAIR, [FIRST, SECOND])
NO_REEL = (0, NOTHINGS + [SHAPE, [FIRST], (PAIR, [FIRST]), 0, "reel"], BadReel, {"part": None})
NO_BITS = [None, True, 0, [], ["0"], {}, "2", "00 ", SHAPE, b"0"]


def flat_item(show, plus=0):
    """An item that shows the middle and so much more."""
    if plus == 0:
        return (show, (), FLAT_HEAD, FLAT)
    return (show, (), FLAT_HEAD, (((0, 0, 8), ("flat", "plain", (plus,) * 4)),))


def wrong_items():
    """Values that are no items of PAIR at all."""
    found = NOTHINGS + [SHAPE, list(FIRST), FIRST[:3], FIRST + (None,), (FIRST,), EXAMPLE]
    found += [(show,) + FIRST[1:] for show in wrong_numbers(0, 31)]
    found += [(0, leans) + SECOND[2:] for leans in NOTHINGS + [0, (0, 0), [0], (-1,), (31,), ("0",), (None,), (True,), (False,)]
              if leans != (1,)]
    found += [(0, (), head, FLAT) for head in (None, FLAT_HEAD.book, 0, PAIR, STILL_HEAD)]
    found += [(0, (), FLAT_HEAD, telling) for telling in (None, (), [], list(FLAT), FLAT[0], STILL, FLAT + FLAT)]
    return found + [(0, (0,), FLAT_HEAD, FLAT), (0, (0,), BOTH_HEAD, FLAT), (0, (0, 0), STILL_HEAD, STILL)]


class Reels(unittest.TestCase):
    def test_attributes(self):
        self.assertEqual((EXAMPLE.shape, EXAMPLE.entries, len(EXAMPLE)), (PAIR, (FIRST, SECOND), 2))
        self.assertIsInstance(EXAMPLE.entries, tuple)
        self.assertEqual(Reel(entries=(FIRST, SECOND), shape=Shape(2, 2, 0, 9)), EXAMPLE)
        items = [FIRST, SECOND]
        reel = Reel(PAIR, items)
        items.clear()
        self.assertEqual(len(reel), 2)
        for many in (1, 2, 31, 32):
            reel = Reel(PAIR, [flat_item(many - 1 - number) for number in range(many)])
            self.assertEqual(len(reel), many)

    def test_equality(self):
        self.assertTrue(EXAMPLE == Reel(Shape(2, 2, 0, 9), (FIRST, SECOND)))
        self.assertFalse(EXAMPLE != Reel(PAIR, (FIRST, SECOND)))
        others = [Reel(Shape(2, 2, 0, 8), [FIRST, SECOND]), Reel(PAIR, [FIRST]), Reel(PAIR, [FIRST, flat_item(1)]),
                  Reel(PAIR, [flat_item(0, 1), SECOND]), Reel(PAIR, [flat_item(1), (0, (0,), STILL_HEAD, STILL)])]
        for other in others:
            self.assertFalse(EXAMPLE == other)
            self.assertTrue(EXAMPLE != other)
        for thing in NOTHINGS + [SHAPE, (PAIR, (FIRST, SECOND)), [FIRST, SECOND], 2]:
            self.assertFalse(EXAMPLE == thing)
            self.assertFalse(thing == EXAMPLE)

    def test_wrong_parts(self):
        lists = [None, True, 0, "", {}, [], (), FIRST[0], [flat_item(0)] * 33, {FIRST[0]: FIRST}]
        refuses(self, Reel, [PAIR, [FIRST, SECOND]], [
            (0, wrong_shapes(), BadReel, {"part": "shape"}), (1, lists, BadReel, {"part": "entries"}),
            (1, [[FIRST, FIRST]], BadItem, {"at": 1})])

    def test_wrong_items(self):
        for item in wrong_items():
            raises(self, BadItem, Reel, [PAIR, [item]], at=0)
            raises(self, BadItem, Reel, [PAIR, [FIRST, item]], at=1)
            raises(self, BadItem, Reel, [PAIR, [FIRST, item, item]], at=1)
            raises(self, BadItem, Reel, [PAIR, [flat_item(2), SECOND, item]], at=2)
        lean_on = [(number, (lean,), STILL_HEAD, STILL) for number in (0, 1, 2) for lean in (0, 1, 2, 30)]
        for number, (lean,), _, _ in lean_on:
            item = (number, (lean,), STILL_HEAD, STILL)
            items = [flat_item(show) for show in range(3)]
            items[number] = item
            if lean < number:
                self.assertEqual(Reel(PAIR, items).entries[number], item)
            else:
                raises(self, BadItem, Reel, [PAIR, items], at=number)
        for shows, at in (((1,), 0), ((0, 2), 1), ((2, 0), 0), ((1, 1), 1), ((0, 1, 0), 2), ((0, 1, 3), 2), ((31, 0), 0)):
            raises(self, BadItem, Reel, [PAIR, [flat_item(show) for show in shows]], at=at)
        both = (2, (1, 1), BOTH_HEAD, STILL)
        self.assertEqual(Reel(PAIR, [FIRST, SECOND, both]).entries[2], both)
        for leans in ((2, 0), (0, 2), (1, 5)):
            raises(self, BadItem, Reel, [PAIR, [FIRST, SECOND, (2, leans, BOTH_HEAD, STILL)]], at=2)
        telling = (((0, 0, 8), ("flat", "plain", (1, 2))),)
        self.assertEqual(len(Reel(Shape(1, 2, 0, 9), [(0, (), FLAT_HEAD, telling)])), 1)
        raises(self, BadItem, Reel, [PAIR, [(0, (), FLAT_HEAD, telling)]], at=0)


class Bits(unittest.TestCase):
    def test_example(self):
        start = "0001" + "0001" + in_many(512, 10) + in_many(521, 10) + "00001"
        bits = start + "0" + head_bits(FLAT_HEAD) + "000" + "1" + head_bits(STILL_HEAD) + "01"
        self.assertEqual(reel_bits(EXAMPLE), bits)
        self.assertEqual(len(bits), 110)
        self.assertEqual(item_sizes(EXAMPLE), [39, 38])
        self.assertEqual(read_reel(bits), EXAMPLE)
        self.assertEqual(read_start(bits), (PAIR, 2, 33))
        self.assertEqual(read_item(PAIR, 2, (), bits, 33), (FIRST, 72))
        self.assertEqual(read_item(PAIR, 2, (0,), bits, 72), (SECOND, 110))

    def test_widths_by_hand(self):
        # One item has no bits for its show; the leans of item 3 have two bits, those of item 2 one, of item 1 none.
        self.assertEqual(item_sizes(Reel(PAIR, [flat_item(0)])), [0 + 35 + 3])
        items = [flat_item(4), (3, (0,), STILL_HEAD, STILL), (2, (1,), STILL_HEAD, STILL),
                 (1, (2,), STILL_HEAD, STILL), (0, (3, 0), BOTH_HEAD, STILL)]
        reel = Reel(PAIR, items)
        self.assertEqual(item_sizes(reel), [3 + 35 + 3, 3 + 35 + 2, 3 + 35 + 1 + 2, 3 + 35 + 2 + 2, 3 + 35 + 4 + 3])
        head = head_bits(STILL_HEAD)
        self.assertEqual(reel_bits(reel)[33:], "100" + head_bits(FLAT_HEAD) + "000" + "011" + head + "01"
                         + "010" + head + "1" + "01" + "001" + head + "10" + "01"
                         + "000" + head_bits(BOTH_HEAD) + "1100" + "011")

    def test_by_the_document(self):
        rng = random.Random(81)
        for _ in range(80):
            shape = chance_shape(rng, 6)
            reel = chance_reel(rng, shape, rng.choice([1, 2, 3, 5, 9]))
            items = items_of_reel(reel)
            bits = "".join(items)
            self.assertEqual(reel_bits(reel), bits)
            self.assertEqual(read_reel(bits), reel)
            self.assertEqual(33 + sum(item_sizes(reel)), len(bits))
            self.assertEqual(read_start(bits), (shape, len(reel), 33))
            at = 33
            for number, item in enumerate(reel.entries):
                shows = tuple(other[0] for other in reel.entries[:number])
                found = read_item(shape, len(reel), shows, bits, at)
                self.assertEqual(found, (item, at + item_sizes(reel)[number]))
                at = found[1]
            raises(self, BadStream, read_reel, [bits + rng.choice("01")], at=len(bits))
            raises(self, BadStream, read_reel, [bits + "0101"], at=len(bits))
            self.assertIs(is_begun(bits), False)
            self.assertIs(is_begun(bits + "0"), False)
            self.assertIs(is_begun(bits + "11"), False)

    def test_large_reels(self):
        rng = random.Random(82)
        for many in (17, 32):
            reel = chance_reel(rng, Shape(2, 2, -3, 4), many)
            self.assertEqual(reel_bits(reel), "".join(items_of_reel(reel)))
            self.assertEqual(read_reel(reel_bits(reel)), reel)

    def test_bits_that_end_early(self):
        rng = random.Random(83)
        reels = [EXAMPLE] + [chance_reel(rng, chance_shape(rng, 4), rng.choice([1, 3, 4])) for _ in range(8)]
        for reel in reels:
            items = items_of_reel(reel)
            starts = [len("".join(items[:at])) for at in range(len(items))]
            bits = "".join(items)
            for length in range(len(bits)):
                # An item of no bits is there at once; the first one that is not is where the bits end.
                due = max(start for start in starts if start <= length)
                raises(self, BadStream, read_reel, [bits[:length]], at=due)
                self.assertIs(is_begun(bits[:length]), True)
                if length < 33:
                    raises(self, BadStream, read_start, [bits[:length]], at=due)
            self.assertEqual(read_start(bits[:33]), (reel.shape, len(reel), 33))

    def test_starts_that_are_none(self):
        bits = reel_bits(EXAMPLE)
        for low, high in ((0, -1), (511, 510), (511, -512), (-511, -512)):
            wrong = bits[:8] + in_many(low + 512, 10) + in_many(high + 512, 10) + bits[28:]
            for call in (read_reel, read_start):
                raises(self, BadStream, call, [wrong], at=18)
        same = bits[:8] + in_many(1023, 10) * 2 + bits[28:33]
        self.assertEqual(read_start(same), (Shape(2, 2, 511, 511), 2, 33))
        self.assertEqual(read_start("1" * 28 + "1" * 5), (Shape(16, 16, 511, 511), 32, 33))

    def test_starts_at_the_ends(self):
        for parts in ((1, 1, -512, -512), (16, 1, -512, 511), (1, 16, 511, 511), (16, 16, 0, 0), (3, 2, -511, 510)):
            for many in (1, 2, 31, 32):
                bits = "".join([in_many(parts[0] - 1, 4), in_many(parts[1] - 1, 4), in_many(parts[2] + 512, 10),
                                in_many(parts[3] + 512, 10), in_many(many - 1, 5)])
                self.assertEqual(read_start(bits), (Shape(*parts), many, 33))
                self.assertEqual(read_start(bits + "0"), (Shape(*parts), many, 33))
            reel = Reel(Shape(*parts), [(0, (), FLAT_HEAD, tuple(
                ((top, left, 8), ("flat", "none", ())) for top in range(0, parts[0], 8) for left in range(0, parts[1], 8)))])
            self.assertEqual(read_reel(reel_bits(reel)), reel)

    def test_shows_that_are_none(self):
        three = [flat_item(1), flat_item(2), flat_item(0)]
        bits = reel_bits(Reel(PAIR, three))
        for number, show, good in ((0, 3, False), (0, 0, True), (1, 1, False), (1, 3, False), (1, 0, True), (2, 1, False),
                                   (2, 2, False)):
            at = 33 + sum(item_sizes(Reel(PAIR, three))[:number])
            wrong = bits[:at] + in_many(show, 2) + bits[at + 2:]
            shows = (1, 2, 0)[:number]
            if good:
                self.assertEqual(read_item(PAIR, 3, shows, wrong, at)[0][0], show)
            else:
                raises(self, BadStream, read_item, [PAIR, 3, shows, wrong, at], at=at)
                raises(self, BadStream, read_reel, [wrong], at=at)
                self.assertIs(is_begun(wrong), False)
                self.assertIs(is_begun(wrong[:at + 2]), False)

    def test_heads_that_are_none(self):
        bits = reel_bits(EXAMPLE)
        for other in (STILL_HEAD, BOTH_HEAD, full_head(1), full_head(2)):
            wrong = bits[:34] + head_bits(other) + bits[69:]
            raises(self, BadStream, read_reel, [wrong], at=34)
            raises(self, BadStream, read_item, [PAIR, 2, (), wrong, 33], at=34)
            self.assertIs(is_begun(wrong[:69]), False)
        for head in ("11" + "0" * 9 + "001" + "0" * 21, "0" * 35, "00" + "0" * 6 + "101" + "001" + "0" * 21):
            for at, (number, ahead) in enumerate(((33, "0"), (72, "1"))):
                wrong = bits[:number] + ahead + head + bits[number + 36:]
                raises(self, BadStream, read_reel, [wrong], at=number + 1)
                raises(self, BadStream, read_item, [PAIR, 2, (0,)[:at], wrong, number], at=number + 1)

    def test_leans_that_are_none(self):
        ahead = [flat_item(number) for number in range(3)]
        items = ahead + [(3, (2,), STILL_HEAD, STILL)]
        bits = reel_bits(Reel(PAIR, items))
        at = len(bits) - 4
        for lean in range(4):
            told = bits[:at] + in_many(lean, 2) + bits[at + 2:]
            if lean < 3:
                self.assertEqual(read_reel(told).entries[3][1], (lean,))
            else:
                raises(self, BadStream, read_reel, [told], at=at)
                raises(self, BadStream, read_item, [PAIR, 4, (0, 1, 2), told, at - 37], at=at)
                self.assertIs(is_begun(told[:at + 2]), False)
                self.assertIs(is_begun(told[:at + 1]), True)
        items[3] = (3, (1, 2), BOTH_HEAD, STILL)
        bits = reel_bits(Reel(PAIR, items))
        at = len(bits) - 3 - 4
        for first, second in itertools.product(range(4), repeat=2):
            told = bits[:at] + in_many(first, 2) + in_many(second, 2) + bits[at + 4:]
            if max(first, second) < 3:
                self.assertEqual(read_reel(told).entries[3][1], (first, second))
            else:
                raises(self, BadStream, read_reel, [told], at=at if first == 3 else at + 2)

    def test_tellings_that_are_none(self):
        bits = reel_bits(EXAMPLE)
        # Behind the head of item 0 the block, the mode and the way begin, behind that of item 1 at 108 and 109.
        raises(self, BadStream, read_reel, [bits[:70] + "1" + bits[71:]], at=70)
        raises(self, BadStream, read_reel, [bits[:71] + "10" + "1" * 12 + "0" * 16], at=73)
        self.assertEqual(read_reel(bits[:108] + "000").entries[1][3], FLAT)

    def test_unlike_reels(self):
        rng = random.Random(84)
        reels = [chance_reel(rng, Shape(1, 2, 0, 1), rng.choice([1, 2])) for _ in range(60)]
        for one, other in itertools.combinations(reels, 2):
            first, second = reel_bits(one), reel_bits(other)
            self.assertEqual(first == second, one == other)
            self.assertTrue(one == other or not first.startswith(second) and not second.startswith(first))

    def test_wrong_inputs(self):
        for call in (reel_bits, item_sizes):
            refuses(self, call, [EXAMPLE], [NO_REEL])
        bits = reel_bits(EXAMPLE)
        for call in (read_reel, read_start, is_begun):
            refuses(self, call, [bits], [(0, NO_BITS, BadBits)])
        shows = NOTHINGS + [SHAPE, [0], (0, 1), (0, 0), (2,), (-1,), (True,), (None,), ("0",), 0, {0: 0}]
        refuses(self, read_item, [PAIR, 2, (0,), bits, 72], [
            (0, wrong_shapes(), BadShape, {"part": None}), (1, wrong_numbers(1, 32), BadMany),
            (2, [thing for thing in shows if thing not in ((), (1,))], BadShows), (3, NO_BITS, BadBits),
            (4, wrong_numbers(0, 110), BadAt), (4, [110], BadStream, {"at": 110})])
        raises(self, BadShows, read_item, [PAIR, 1, (0,), bits, 0])
        raises(self, BadShows, read_item, [PAIR, 3, (0, 0), bits, 0])
        raises(self, BadShows, read_item, [PAIR, 3, (0, 3), bits, 0])
        raises(self, BadShows, read_item, [PAIR, 3, (0, False), bits, 0])
        self.assertEqual(read_item(PAIR, 32, tuple(range(31)), "11111" + head_bits(FLAT_HEAD) + "000", 0),
                         (flat_item(31), 43))


class Begun(unittest.TestCase):
    def begun(self, bits, most=9):
        """Whether some few bits behind make the last item whole: then reading comes farther, or to the end."""
        try:
            read_reel(bits)
            return False
        except BadStream as error:
            at = error.at
        if len(bits) - at > 40:
            return False
        for many in range(1, most + 1):
            for tail in map("".join, itertools.product("01", repeat=many)):
                try:
                    read_reel(bits + tail)
                    return True
                except BadStream as error:
                    if error.at > at and error.at >= len(bits):
                        return True
        return False

    def changed(self, rng, reel):
        """The bits of a reel up to the end of an item or within it, the last ones by chance."""
        bits = reel_bits(reel)
        length = rng.randint(0, len(bits))
        many = rng.randint(0, min(4, length))
        return bits[:length - many] + "".join(rng.choice("01") for _ in range(many))

    def test_a_trial_of_bits_behind(self):
        rng = random.Random(85)
        checked = 0
        for _ in range(400):
            shape = rng.choice([Shape(2, 3, 0, 9), Shape(1, 1, -512, 511), Shape(2, 9, 500, 511)])
            book = (2, 2, 0, 0, 4, 3, 0, 4)
            heads = [Head(0, 0, rng.choice([0, 2]), 0, (2, 2, 0, 0, 4, 0, 0, 0)), Head(1, 0, 1, 2, book)]
            items = [(0, (), heads[0], chance_telling(rng, heads[0], shape, 3)),
                     (1, (0,), heads[1], chance_telling(rng, heads[1], shape, 3)),
                     (2, (1,), heads[1], chance_telling(rng, heads[1], shape, 3))]
            bits = self.changed(rng, Reel(shape, items))
            try:
                read_reel(bits)
                at = len(bits)
            except BadStream as error:
                at = error.at
            # Of heads and of levels with a long word too many bits may be missing to try all of them.
            rest = bits[at:]
            if rest.startswith("1" * 11) or at - 33 in (2, 39 + 2) or self.in_head(bits, at):
                continue
            checked += 1
            self.assertIs(is_begun(bits), self.begun(bits, 10 if at < 33 else 7), (bits, at))
        self.assertGreater(checked, 150)

    def in_head(self, bits, at):
        """Whether a head has to stand there: with one, reading comes farther."""
        for head in (FLAT_HEAD, STILL_HEAD):
            try:
                read_reel(bits[:at] + head_bits(head))
                return True
            except BadStream as error:
                if error.at >= at + 35:
                    return True
        return False

    def test_starts(self):
        bits = reel_bits(Reel(Shape(3, 4, 5, 6), [(0, (), FLAT_HEAD, (((0, 0, 8), ("flat", "none", ())),))]))
        self.assertIs(is_begun(""), True)
        for length in range(19):
            self.assertIs(is_begun(bits[:length]), True)
        # The low is 5, 517 of 1023: a high that begins by less can never reach it.
        low = in_many(517, 10)
        for length in range(11):
            for number in range(2 ** length):
                begun = in_many(number, length)
                reaches = int(begun + "1" * (10 - length), 2) >= 517
                self.assertIs(is_begun("0010" + "0011" + low + begun), reaches)

    def test_shows(self):
        # Of 6 items with the shows 4 and 5 taken, "10" and "11" can no more begin a show; "1" cannot either.
        items = [flat_item(4), flat_item(5), flat_item(0), flat_item(1), flat_item(2), flat_item(3)]
        reel = Reel(PAIR, items)
        bits = reel_bits(reel)
        at = 33 + sum(item_sizes(reel)[:2])
        for begun, good in (("", True), ("0", True), ("1", False), ("00", True), ("01", True), ("10", False),
                            ("11", False), ("011", True), ("100", False), ("110", False)):
            self.assertIs(is_begun(bits[:at] + begun), good)
        at = 33 + item_sizes(reel)[0]
        for begun, good in (("1", True), ("10", True), ("11", False), ("101", True), ("100", False)):
            self.assertIs(is_begun(bits[:at] + begun), good)
        # The last show of 2 items is known ahead.
        at = 72
        self.assertEqual([is_begun(reel_bits(EXAMPLE)[:at] + begun) for begun in ("", "0", "1")], [True, False, True])

    def head_is_begun(self, begun, most):
        """Whether the parts that are begun can be made whole, plainly; those behind are as good as can be."""
        widths = [2] + [3] * 11
        choices = []
        for width in widths:
            part, begun = begun[:width], begun[width:]
            numbers = [number for number in range(2 ** width) if in_many(number, width).startswith(part)]
            choices.append(numbers if part else [7] if len(choices) == 4 else [0])
        for parts in itertools.product(*choices):
            try:
                if Head(*parts[:4], parts[4:]).kind <= most:
                    return True
            except ValueError:
                continue
        return False

    def test_heads(self):
        rng = random.Random(86)
        for most, ahead in ((0, reel_bits(EXAMPLE)[:34]), (2, reel_bits(EXAMPLE)[:73])):
            for _ in range(700):
                head = chance_head(rng)
                bits = head_bits(head)
                begun = bits[:rng.randint(0, 34)]
                for _ in range(rng.randint(0, 2)):
                    if begun:
                        at = rng.choice([0, 1, rng.randrange(len(begun)), len(begun) - 1, min(8, len(begun) - 1)])
                        at = min(at, len(begun) - 1)
                        begun = begun[:at] + rng.choice("01") + begun[at + 1:]
                self.assertIs(is_begun(ahead + begun), self.head_is_begun(begun, most), begun)

    def test_heads_by_hand(self):
        first, second = reel_bits(EXAMPLE)[:34], reel_bits(EXAMPLE)[:73]
        for begun, good in (("", True), ("0", True), ("1", False), ("00", True), ("01", False)):
            self.assertIs(is_begun(first + begun), good)
        for begun, good in (("0", True), ("1", True), ("01", True), ("10", True), ("11", False)):
            self.assertIs(is_begun(second + begun), good)
        start = "01" + "000" * 2
        for begun, good in (("1", True), ("10", True), ("11", False), ("100", True), ("101", False), ("011", True)):
            self.assertIs(is_begun(second + start + begun), good)
        start += "000"
        for begun, good in (("0", True), ("00", True), ("000", False), ("001" * 2, True), ("001" * 2 + "0", True),
                            ("001" * 2 + "1", False), ("001" * 2 + "01", False), ("001" * 2 + "00", True),
                            ("001" + "010" * 2 + "000" * 4, True), ("001" + "010" * 2 + "000" * 4 + "1", False),
                            ("001" + "010" + "011" + "000" * 3 + "0", True), ("001" + "000" * 5 + "1", False),
                            ("001" + "000" * 5 + "00", True), ("001" + "000" * 6 + "1", True)):
            self.assertIs(is_begun(second + start + begun), good, begun)

    def test_levels(self):
        for grade in (0, 1, 7):
            head = Head(0, 0, grade, 0, (1, 0, 0, 0, 0, 0, 0, 0))
            telling = (((0, 0, 8), ("flat", "plain", (0, 0))),)
            bits = reel_bits(Reel(Shape(1, 2, 0, 9), [(0, (), head, telling)]))
            ahead = bits[:len(bits) - 1 - grade]
            for ones in range(13):
                self.assertIs(is_begun(ahead + "1" * ones), True)
                if ones < 12:
                    for many in range(grade):
                        for sign in "01":
                            self.assertIs(is_begun(ahead + "1" * ones + "0" + sign * many), True)
                    self.assertIs(is_begun(ahead + "1" * ones + "0" + "1" * grade), False)
                    read_reel(ahead + "1" * ones + "0" + "1" * grade)
            for many in range(1, 17):
                for number in {0, 1, 2 ** many - 1, 2 ** many - 2, 12 * 2 ** grade >> 16 - many,
                               (12 * 2 ** grade >> 16 - many) - 1}:
                    if number < 0:
                        continue
                    begun = in_many(number, many)
                    least, most = int(begun + "0" * (16 - many), 2), int(begun + "1" * (16 - many), 2)
                    good = many < 16 and most >= 12 * 2 ** grade and least <= 65534
                    self.assertIs(is_begun(ahead + "1" * 12 + begun), good, (grade, begun))
                    if many == 16 and not 12 * 2 ** grade <= number <= 65534:
                        for behind in ("0", "1", "11"):
                            self.assertIs(is_begun(ahead + "1" * 12 + begun + behind), False)

    def test_tellings(self):
        head = Head(1, 0, 0, 1, (2, 3, 0, 0, 0, 3, 0, 3))
        shape = Shape(1, 4, 0, 9)
        ahead = reel_bits(Reel(shape, [(0, (), FLAT_HEAD, FLAT), (1, (0,), head, STILL)]))[:-4]
        # The words are 00 for flat, 010 for left, 011 for copy, 100 for still.
        for begun, good in (("", True), ("1", True), ("0", True), ("00", True), ("01", True), ("000", True),
                            ("001", True), ("0010", False), ("0011", True), ("010", True), ("0101", False), ("011", False),
                            ("1100", True), ("110", True), ("1101", True), ("11010", False)):
            self.assertIs(is_begun(ahead + begun), good, begun)
        # Behind a first cell "left" can stand; vectors have a reach of 1, less the last one (1, -1).
        first = "11" + "011" + long_bits(1) + long_bits(-1) + "0"
        for begun, good in (("01", True), ("010", True), ("011", True), ("0110", True), ("0111", True), ("01110", True),
                            ("011100", False), ("011101", True), ("01111", True), ("011110", True), ("0111100", True),
                            ("01111000", False), ("01111001", True), ("0111101", False), ("011111", False),
                            ("0110" + "1", True), ("0110" + "101", False), ("0110" + "100", True), ("0110" + "11", True),
                            ("0110" + "11001", False), ("0110" + "11000", True), ("0110" + "1101", False),
                            ("0110" + "111", False), ("0110" + "0" + "1", True), ("0110" + "0" + "11", True)):
            self.assertIs(is_begun(ahead + first + begun), good, begun)


class Planes(unittest.TestCase):
    def test_example(self):
        grey = ((4, 4), (4, 4))
        self.assertEqual(told_planes(EXAMPLE), [grey, grey])
        self.assertEqual(shown_planes(EXAMPLE), [grey, grey])
        self.assertEqual([needed(EXAMPLE, place) for place in (0, 1)], [(0,), (0, 1)])

    def test_by_hand(self):
        items = [flat_item(3, 1), flat_item(1, -2), (0, (0, 1), BOTH_HEAD, (((0, 0, 8), ("both", (0, 0), "none", ())),)),
                 flat_item(4, 4), (2, (2,), STILL_HEAD, STILL)]
        reel = Reel(PAIR, items)
        told = [((number,) * 2,) * 2 for number in (5, 2, 3, 8, 3)]
        self.assertEqual(told_planes(reel), told)
        self.assertEqual(shown_planes(reel), [told[number] for number in (2, 1, 4, 0, 3)])
        self.assertEqual([needed(reel, place) for place in range(5)], [(0, 1, 2), (1,), (0, 1, 2, 4), (0,), (3,)])
        self.assertEqual([show_one(reel, place) for place in range(5)], shown_planes(reel))

    def test_by_the_document(self):
        rng = random.Random(87)
        for _ in range(60):
            shape = chance_shape(rng, 5)
            reel = chance_reel(rng, shape, rng.choice([1, 2, 4, 7]))
            told = planes_told(reel)
            self.assertEqual(told_planes(reel), told)
            shows = [item[0] for item in reel.entries]
            for place in range(len(reel)):
                number = shows.index(place)
                self.assertEqual(shown_planes(reel)[place], told[number])
                self.assertEqual(show_one(reel, place), told[number])
                hangs = {number}
                for _ in range(len(reel)):
                    hangs |= {lean for other in hangs for lean in reel.entries[other][1]}
                self.assertEqual(needed(reel, place), tuple(sorted(hangs)))
                # It hangs on the needed items alone: others may be told in any other way.
                items = [item if at in hangs else (item[0], item[1], item[2], chance_telling(rng, item[2], shape))
                         for at, item in enumerate(reel.entries)]
                self.assertEqual(show_one(Reel(shape, items), place), told[number])

    def test_play_item(self):
        rng = random.Random(88)
        for _ in range(60):
            head, shape = chance_head(rng), chance_shape(rng)
            telling, references = chance_telling(rng, head, shape), chance_references(rng, head, shape)
            item = (rng.randrange(32), tuple(rng.randrange(31) for _ in range(head.kind)), head, telling)
            self.assertEqual(play_item(shape, item, references), plain_play(head, shape, telling, references)[0])
            self.assertEqual(play_item(shape, item, tuple(references)), play_item(shape, item, references))

    def test_wrong_inputs(self):
        for call in (told_planes, shown_planes):
            refuses(self, call, [EXAMPLE], [NO_REEL])
        for call in (needed, show_one):
            refuses(self, call, [EXAMPLE, 1], [NO_REEL, (1, wrong_numbers(0, 1), BadPlace)])
        plane = flat(PAIR, 7)
        self.assertEqual(play_item(PAIR, (31, (30,), STILL_HEAD, STILL), [plane]), plane)
        refuses(self, play_item, [PAIR, (0, (5,), STILL_HEAD, STILL), [plane]], [
            (0, wrong_shapes(), BadShape, {"part": None}), (1, wrong_items(), BadItem, {"at": None}),
            (2, [None, True, 0, {}, [], (), plane, [plane, plane]] + [[wrong] for wrong in wrong_planes(PAIR)],
             BadReferences)])
        refuses(self, play_item, [PAIR, FIRST, []], [
            (0, wrong_shapes(), BadShape, {"part": None}), (1, [None], BadItem, {"at": None}),
            (2, [None, [plane], {}, "", [None]], BadReferences)])


if __name__ == "__main__":
    unittest.main()
