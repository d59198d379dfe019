import itertools
import random
import unittest

from helpers import (HEAD, NOTHINGS, SHAPE, all_blocks, plane_of, raises, refuses, wrong_blocks, wrong_numbers,
                     wrong_planes, wrong_shapes)
from pricedreels.bits import grade_bits, long_bits
from pricedreels.errors import (BadAt, BadBits, BadBlock, BadHead, BadReferences, BadShape, BadStream, BadTelling)
from pricedreels.grids import Shape, cells, is_cover, spots
from pricedreels.heads import Head, words_of
from pricedreels.tellings import bits_of, does_fit, is_choice, is_telling, play, read_telling, worth
from told import (MODES, chance_head, chance_references, chance_shape, chance_telling, full_head, items_of_telling,
                  plain_bits, plain_play, standing, starts, vectors)

SMALL = Shape(2, 4, 0, 9)
WIDE = Shape(3, 9, -5, 20)
FLAT = (1, 0, 0, 0, 0, 0, 0, 0)
NO_HEADS = [thing for thing in NOTHINGS if not isinstance(thing, Head)] + [0, SHAPE, (0, 0, 0, 0, FLAT)]
NO_HEAD = (0, NO_HEADS, BadHead, {"part": None})
NO_SHAPE = (1, wrong_shapes(), BadShape, {"part": None})


def one(choice):
    """The telling of SMALL with one block."""
    return (((0, 0, 8), choice),)


def wrong_references(shape, many):
    """Values that are no list of so many planes of the shape, many above 0."""
    plane = ((shape.low,) * shape.width,) * shape.height
    return ([None, True, 0, "references", {}, plane, [], (), [plane] * (many - 1), [plane] * (many + 1), {plane: plane}]
            + [[wrong] + [plane] * (many - 1) for wrong in wrong_planes(shape)]
            + [[plane] * (many - 1) + [wrong] for wrong in wrong_planes(shape)])


def wrong_tellings():
    """Values that are no tellings of full_head(2, 1, 0, 1) and SMALL, most of them by one part."""
    right = ("left", "plain", (1, 2, 3, 4))
    first = ((0, 0, 2), ("flat", "none", ()))
    second = ((0, 2, 2), right)
    found = [None, True, 0, "telling", {}, [], (), SMALL, [first, second], (first,), (second,), (second, first),
             (first, first), (first, second, second), (list(first), second), (first, list(second)), (first, ()),
             (first + (None,), second), (first[:1], second), (None, first, second), (first, second, None), (0, 1),
             ((True, first[1]), second), (((0, 0, 2, 0), first[1]), second), (((False, 0, 2), first[1]), second),
             (((0, 0, 8), first[1]), second), (((0, 0, 4), first[1]), second), (((0, 0, 1), first[1]), second),
             ((first[1], first[0]), second), {first: second}, (first, second, ((0, 4, 2), first[1])),
             (((0, 0, 8), first[1]),) * 2, (((0, 0, 4), first[1]),) * 2, ((None, first[1]),)]
    return found + [(first, ((0, 2, 2), wrong)) for wrong in wrong_choices(4)]


def wrong_choices(many):
    """Values that are no choices of full_head(2, 1, 0, 1) for a block (0, 2, 2) of many spots."""
    levels = (0,) * many
    found = [thing for thing in NOTHINGS if thing != ()] + [(), SHAPE, "still", ["still"], "flat", ("flat",)]
    for mode in ("up", "middle", "x", "", None, True, 0, ("flat",), ["flat"], SHAPE, "Flat"):
        found.append((mode, "none", ()))
    for start in [("flat",), ("copy", 1, (1, -1)), ("both", (0, 1))]:
        found += [start + ends for ends in [
            (), ("none",), ("plain",), ((),), (levels,), ("none", (), ()), ("none", [],), ("none", levels),
            ("none", None), ("plain", ()), ("lifted", ()), ("plain", list(levels)), ("plain", levels[1:]),
            ("lifted", levels[1:]), ("plain", levels + (0,)), ("lifted", levels + (0,)), ("x", levels), ("", ()),
            (None, ()), (True, levels), (0, ()), (["plain"], levels), ("Plain", levels), ("none", ()) * 2]]
        for part in (True, False, None, "0", 32768, -32768, (0,), [0], SHAPE, 10 ** 11):
            for at in range(many):
                for way in ("plain", "lifted"):
                    found.append(start + (way, levels[:at] + (part,) + levels[at + 1:]))
    for vector in (None, True, 0, (), (0,), (0, 0, 0), [0, 0], "00", (2, 0), (0, 2), (-2, 0), (0, -2), (True, 0),
                   (0, False), (None, 0), (0, "0"), {0: 0}, SHAPE):
        found += [("copy", 0, vector, "none", ()), ("both", vector, "none", ())]
    for reference in (True, False, None, -1, 2, "0", (0,), [0], SHAPE):
        found.append(("copy", reference, (0, 0), "none", ()))
    return found + [("still", "none", ()), ("still", (0, 0)), ("still", 0), ("copy", (0, 0), "none", ()),
                    ("both", 0, (0, 0), "none", ()), ("flat", (0, 0), "none", ()), ("flat", 0, (0, 0), "none", ()),
                    ("copy", 0, "none", ()), ("both", "none", ())]


class Choices(unittest.TestCase):
    def test_all_that_are_right(self):
        for head in (full_head(0), full_head(1, 3, 1, 2), full_head(2, 0, 7, 1), full_head(2, 7, 0, 0)):
            for shape in (SMALL, WIDE, Shape(1, 1, 3, 3)):
                for block in all_blocks(shape):
                    many = len(spots(shape, block))
                    for start in starts(head, shape, block):
                        if start == ("still",):
                            self.assertIs(is_choice(head, shape, block, start), True)
                            continue
                        self.assertIs(is_choice(head, shape, block, start + ("none", ())), True)
                        for way in ("plain", "lifted"):
                            for level in (0, 5, -32767, 32767):
                                self.assertIs(is_choice(head, shape, block, start + (way, (level,) * many)), True)

    def test_all_that_are_wrong(self):
        head = full_head(2, 1, 0, 1)
        for thing in wrong_choices(4):
            self.assertIs(is_choice(head, SMALL, (0, 2, 2), thing), False, thing)
        for thing in wrong_choices(2):
            self.assertIs(is_choice(head, Shape(2, 3, 0, 9), (0, 2, 2), thing), False, thing)

    def test_modes_that_can_stand_and_have_a_word(self):
        rng = random.Random(31)
        for _ in range(150):
            head, shape = chance_head(rng), chance_shape(rng)
            block = rng.choice(all_blocks(shape))
            for mode in MODES:
                choice = {"copy": ("copy", 0, (0, 0), "none", ()), "both": ("both", (0, 0), "none", ()),
                          "still": ("still",)}.get(mode, (mode, "none", ()))
                self.assertIs(is_choice(head, shape, block, choice), mode in standing(head, shape, block))

    def test_references_and_vectors(self):
        for kind in (0, 1, 2):
            for reach in range(5):
                head = full_head(kind, 0, 0, reach)
                for reference in (0, 1):
                    for vector in vectors(6):
                        inside = max(abs(vector[0]), abs(vector[1])) <= reach
                        self.assertIs(is_choice(head, SMALL, (0, 0, 8), ("copy", reference, vector, "none", ())),
                                      inside and reference < kind)
                        self.assertIs(is_choice(head, SMALL, (0, 0, 8), ("both", vector, "none", ())),
                                      inside and kind == 2)

    def test_wrong_inputs(self):
        for head in (full_head(0), full_head(2)):
            refuses(self, is_choice, [head, SHAPE, (0, 0, 8), ("flat", "none", ())], [
                NO_HEAD, NO_SHAPE, (2, wrong_blocks(SHAPE), BadBlock)])


class Tellings(unittest.TestCase):
    def test_right(self):
        rng = random.Random(32)
        for _ in range(200):
            head, shape = chance_head(rng), chance_shape(rng, 16)
            telling = chance_telling(rng, head, shape)
            self.assertIs(is_telling(head, shape, telling), True)
            self.assertIs(is_telling(head, shape, list(telling)), False)
            self.assertIs(is_telling(head, shape, telling[1:]), False)
            self.assertIs(is_telling(head, shape, telling + telling[-1:]), False)
            self.assertTrue(is_cover(shape, [block for block, _ in telling]))

    def test_wrong(self):
        head = full_head(2, 1, 0, 1)
        self.assertIs(is_telling(head, SMALL, (((0, 0, 2), ("flat", "none", ())),
                                               ((0, 2, 2), ("left", "plain", (1, 2, 3, 4))))), True)
        for thing in wrong_tellings():
            self.assertIs(is_telling(head, SMALL, thing), False, thing)

    def test_each_choice_is_looked_at(self):
        shape = Shape(4, 4, 0, 9)
        blocks = cells(shape)
        for at in range(4):
            telling = [(block, ("flat", "none", ())) for block in blocks]
            self.assertTrue(is_telling(HEAD, shape, tuple(telling)))
            telling[at] = (blocks[at], ("still",))
            self.assertFalse(is_telling(HEAD, shape, tuple(telling)))

    def test_wrong_inputs(self):
        refuses(self, is_telling, [full_head(1), SMALL, one(("still",))], [NO_HEAD, NO_SHAPE])


class Playing(unittest.TestCase):
    def shows(self, head, shape, telling, references, plane, fits=True):
        self.assertEqual(play(head, shape, telling, references), plane)
        self.assertIs(does_fit(head, shape, telling, references), fits)

    def test_modes_within_by_hand(self):
        head = full_head(0)
        self.shows(head, SMALL, one(("flat", "none", ())), [], ((4,) * 4,) * 2)
        first = ((0, 0, 2), ("flat", "plain", (-3, 0, 1, 2)))
        self.shows(head, SMALL, (first, ((0, 2, 2), ("left", "none", ()))), [], ((1, 4, 4, 4), (5, 6, 6, 6)))
        self.shows(head, SMALL, (first, ((0, 2, 2), ("mean", "none", ()))), [], ((1, 4, 5, 5), (5, 6, 5, 5)))
        self.shows(head, SMALL, (first, ((0, 2, 2), ("left", "plain", (9, -9, 1, 0)))), [], ((1, 4, 9, 0), (5, 6, 7, 6)))

    def test_guesses_look_at_what_is_shown(self):
        head = full_head(0)
        shape = Shape(4, 4, 0, 9)
        telling = (((0, 0, 2), ("flat", "plain", (0, 1, 2, 90))), ((0, 2, 2), ("left", "none", ())),
                   ((2, 0, 2), ("up", "none", ())), ((2, 2, 2), ("middle", "plain", (0, 0, 0, -1))))
        self.shows(head, shape, telling, [], ((4, 5, 5, 5), (6, 9, 9, 9), (6, 9, 9, 9), (6, 9, 9, 8)))

    def test_losses_by_hand(self):
        for loss in range(8):
            head = full_head(0, loss)
            step = 2 * loss + 1
            shape = Shape(1, 3, -40, 40)
            self.shows(head, shape, one(("flat", "plain", (1, -2, 0))), [],
                       ((step, -2 * step, 0),))
            self.shows(head, shape, one(("flat", "lifted", (1, 2, 0))), [], ((0, 0, 2 * step),))

    def test_lifted_by_hand(self):
        # The rectangle ((3, 8, 1),) lifted is ((3, -4, 5),); with the loss 1 each number is taken three times.
        shape = Shape(1, 3, 0, 30)
        self.shows(full_head(0), shape, one(("flat", "lifted", (3, -4, 5))), [], ((18, 23, 16),))
        self.shows(full_head(0, 1), shape, one(("flat", "lifted", (1, 0, 0))), [], ((18, 18, 18),))
        # 9 and -12 and 15: the mean of the first half is 9 + 6, its halves are 15 - 7 and 15 + 8.
        self.shows(full_head(0, 1), Shape(1, 3, -40, 41), one(("flat", "lifted", (3, -4, 5))), [], ((8, 23, 3),))

    def test_clipped_or_not(self):
        shape = Shape(1, 2, 0, 9)
        head = full_head(0)
        self.shows(head, shape, one(("flat", "plain", (-5, 6))), [], ((0, 9),))
        self.shows(head, shape, one(("flat", "lifted", (0, 9))), [], ((0, 9),))
        self.shows(head, shape, one(("flat", "lifted", (0, 10))), [], ((0, 9),), False)
        self.shows(head, shape, one(("flat", "lifted", (1, 9))), [], ((1, 9),), False)
        self.shows(head, shape, one(("flat", "lifted", (-5, 0))), [], ((0, 0),), False)
        self.shows(head, shape, one(("flat", "lifted", (5, 0))), [], ((9, 9),))

    def test_one_clipped_sample_ahead(self):
        head = full_head(0)
        bad = ((0, 0, 2), ("flat", "lifted", (9, 0, 0, 0)))
        good = ((0, 2, 2), ("flat", "lifted", (1, 0, 0, 0)))
        self.shows(head, SMALL, (bad, good), [], ((9, 9, 5, 5),) * 2, False)
        self.shows(head, SMALL, (((0, 0, 2), ("flat", "plain", (9,) * 4)), good), [], ((9, 9, 5, 5),) * 2)

    def test_copies_by_hand(self):
        shape = Shape(1, 4, 0, 9)
        first, second = ((0, 1, 2, 3),), ((8, 6, 9, 4),)
        head = full_head(2, 0, 0, 2)
        self.shows(head, shape, one(("copy", 0, (0, 2), "none", ())), [first, second], ((1, 2, 3, 3),))
        self.shows(head, shape, one(("copy", 1, (0, 2), "none", ())), [first, second], ((6, 9, 4, 4),))
        self.shows(head, shape, one(("copy", 1, (0, 0), "plain", (1, 2, 3, -4))), (first, second), ((9, 8, 9, 0),))
        self.shows(head, shape, one(("both", (0, 2), "none", ())), [first, second], ((4, 5, 4, 6),))
        self.shows(head, shape, one(("still",)), [first, second], ((0, 1, 2, 3),))

    def test_still_goes_by_the_last_vector(self):
        shape = Shape(1, 8, 0, 9)
        first, second = (tuple(range(8)),), ((9,) * 8,)
        head = full_head(2, 0, 0, 2)
        cells_at = [(0, left, 2) for left in (0, 2, 4, 6)]

        def shown(*choices):
            return play(head, shape, tuple(zip(cells_at, choices)), [first, second])[0]
        flat, still = ("flat", "none", ()), ("still",)
        copy, both = ("copy", 1, (0, 2), "none", ()), ("both", (0, -2), "plain", (-9, -9))
        self.assertEqual(shown(still, still, still, still), (0, 1, 2, 3, 4, 5, 6, 7))
        self.assertEqual(shown(copy, still, still, still), (9, 9, 3, 4, 5, 6, 7, 7))
        self.assertEqual(shown(copy, flat, still, still), (9, 9, 4, 4, 5, 6, 7, 7))
        self.assertEqual(shown(copy, both, still, ("left", "none", ())), (9, 9, 0, 0, 3, 4, 4, 4))
        self.assertEqual(shown(both, copy, still, still), (0, 0, 9, 9, 5, 6, 7, 7))
        self.assertEqual(shown(copy, ("copy", 0, (0, 0), "none", ()), still, still), (9, 9, 2, 3, 4, 5, 6, 7))

    def test_by_the_document(self):
        rng = random.Random(33)
        for _ in range(500):
            head, shape = chance_head(rng), chance_shape(rng, 12)
            telling, references = chance_telling(rng, head, shape), chance_references(rng, head, shape)
            plane, fits = plain_play(head, shape, telling, references)
            self.shows(head, shape, telling, references, plane, fits)
            self.shows(head, shape, telling, tuple(references), plane, fits)

    def test_rules_b_and_c(self):
        rng = random.Random(34)
        for _ in range(150):
            head, shape = chance_head(rng, rng.choice([1, 2])), chance_shape(rng)
            telling, references = chance_telling(rng, head, shape, 3), chance_references(rng, head, shape)
            most = rng.choice([1, 3, 40])
            others = [tuple(tuple(min(shape.high, sample + rng.randint(0, most)) for sample in row) for row in plane)
                      for plane in references]
            changed = [tuple(tuple(min(shape.high, max(shape.low, sample + rng.randint(-most, most))) for sample in row)
                             for row in plane) for plane in references]
            shown = play(head, shape, telling, references)
            risen, moved = play(head, shape, telling, others), play(head, shape, telling, changed)
            for row, above, beside in zip(shown, risen, moved):
                for sample, upper, other in zip(row, above, beside):
                    self.assertLessEqual(sample, upper)
                    self.assertLessEqual(abs(sample - other), most)

    def test_wrong_inputs(self):
        for call in (play, does_fit):
            head = full_head(2, 1, 0, 1)
            plane = plane_of(SMALL, random.Random(35))
            refuses(self, call, [head, SMALL, one(("flat", "none", ())), [plane, plane]], [
                NO_HEAD, NO_SHAPE, (2, wrong_tellings(), BadTelling), (3, wrong_references(SMALL, 2), BadReferences)])
            refuses(self, call, [full_head(1), SMALL, one(("flat", "none", ())), [plane]], [
                NO_HEAD, NO_SHAPE, (2, [None, ()], BadTelling), (3, wrong_references(SMALL, 1), BadReferences)])
            refuses(self, call, [full_head(0), SMALL, one(("flat", "none", ())), []], [
                NO_HEAD, NO_SHAPE, (2, [None, ()], BadTelling), (3, [None, {}, "", [plane], [None]], BadReferences)])


class Bits(unittest.TestCase):
    def told(self, head, shape, telling, bits):
        self.assertEqual(bits_of(head, shape, telling), bits)
        self.assertEqual(worth(head, shape, telling), len(bits))
        self.assertEqual(read_telling(head, shape, bits, 0), (telling, len(bits)))

    def test_example(self):
        shape = Shape(2, 2, 0, 9)
        self.told(Head(0, 0, 0, 0, FLAT), shape, one(("flat", "none", ())), "000")
        self.told(Head(1, 0, 0, 0, (1, 0, 0, 0, 0, 0, 0, 1)), shape, one(("still",)), "01")

    def test_quarters_by_hand(self):
        shape = Shape(3, 9, 0, 9)
        head = Head(0, 0, 0, 0, FLAT)
        flat = ("flat", "none", ())
        self.told(head, shape, (((0, 0, 8), flat), ((0, 8, 8), flat)), "000" * 2)
        self.told(head, shape, (((0, 0, 4), flat), ((0, 4, 4), flat), ((0, 8, 8), flat)), "1" + "000" * 2 + "000")
        self.told(head, shape, (((0, 0, 4), flat), ((0, 4, 2), flat), ((0, 6, 2), flat), ((2, 4, 2), flat),
                                ((2, 6, 2), flat), ((0, 8, 4), flat)), "1" + "000" + "1" + "00" * 4 + "1" + "000")
        self.told(head, shape, (((0, 0, 8), flat), ((0, 8, 2), flat), ((2, 8, 2), flat)), "000" + "11" + "00" * 2)

    def test_choices_by_hand(self):
        shape = Shape(1, 2, -9, 9)
        head = Head(2, 2, 1, 3, (3,) * 8)
        self.told(head, shape, one(("flat", "plain", (3, 0))), "0" + "000" + "10" + "1101" + "00")
        self.told(head, shape, one(("copy", 0, (1, -3), "none", ())), "0" + "101" + "0" + "100" + "11011" + "0")
        self.told(head, shape, one(("copy", 1, (0, 0), "lifted", (-1, 1))),
                  "0" + "101" + "1" + "0" + "0" + "11" + "100" + "01")
        self.told(head, shape, one(("both", (-1, 0), "none", ())), "0" + "110" + "101" + "0" + "0")
        self.told(head, shape, one(("still",)), "0" + "111")
        one_kind = Head(1, 2, 1, 3, (2, 0, 0, 0, 0, 2, 0, 2))
        self.told(one_kind, shape, one(("copy", 0, (1, -3), "none", ())), "0" + "01" + "100" + "11011" + "0")
        near = Head(2, 2, 1, 0, (3,) * 8)
        self.told(near, shape, one(("copy", 1, (0, 0), "none", ())), "0" + "101" + "1" + "0")
        self.told(near, shape, one(("both", (0, 0), "none", ())), "0" + "110" + "0")

    def test_vectors_less_the_last_one(self):
        shape = Shape(1, 8, 0, 9)
        head = Head(2, 0, 0, 4, (3,) * 8)
        choices = [("copy", 0, (4, -4), "none", ()), ("still",), ("both", (-4, 4), "none", ()),
                   ("copy", 1, (-4, 3), "none", ())]
        told = tuple(((0, 2 * at, 2), choice) for at, choice in enumerate(choices))
        self.told(head, shape, told, "11" + "101" + "0" + long_bits(4) + long_bits(-4) + "0" + "111" + "1" + "110"
                  + long_bits(-8) + long_bits(8) + "0" + "101" + "1" + long_bits(0) + long_bits(-1) + "0")

    def test_by_the_document(self):
        rng = random.Random(36)
        for _ in range(400):
            head, shape = chance_head(rng), chance_shape(rng, 12)
            telling = chance_telling(rng, head, shape, rng.choice([2, 40]))
            bits = plain_bits(head, shape, telling)
            self.told(head, shape, telling, bits)
            ahead, behind = ["".join(rng.choice("01") for _ in range(rng.randrange(9))) for _ in range(2)]
            self.assertEqual(read_telling(head, shape, ahead + bits + behind, len(ahead)),
                             (telling, len(ahead) + len(bits)))

    def test_wrong_inputs(self):
        for call in (bits_of, worth):
            refuses(self, call, [full_head(2, 1, 0, 1), SMALL, one(("flat", "none", ()))], [
                NO_HEAD, NO_SHAPE, (2, wrong_tellings(), BadTelling)])


class Reading(unittest.TestCase):
    def test_bits_that_end_early(self):
        rng = random.Random(37)
        for _ in range(60):
            head, shape = chance_head(rng), chance_shape(rng, 6)
            telling = chance_telling(rng, head, shape)
            items = items_of_telling(head, shape, telling)
            bits = "".join(items)
            starts_at = [len("".join(items[:at])) for at in range(len(items))]
            for length in range(len(bits)):
                due = max(start for start in starts_at if start <= length)
                raises(self, BadStream, read_telling, [head, shape, "1" + bits[:length], 1], at=due + 1)

    def test_words_that_no_mode_has(self):
        shape = Shape(2, 2, 0, 9)
        head = Head(0, 0, 0, 0, (2, 0, 0, 0, 3, 0, 0, 0))
        for bits in ("0011", "001", "0010", "01", "0101", "0110"):
            raises(self, BadStream, read_telling, [head, shape, bits, 0], at=1)

    def test_modes_that_cannot_stand(self):
        head = full_head(0)
        for mode in ("left", "up", "middle", "mean"):
            bits = "0" + words_of(head.book)[mode] + "0"
            raises(self, BadStream, read_telling, [head, SMALL, bits, 0], at=1)
        flat = "000" + "0"
        for mode in ("up", "middle"):
            bits = "11" + flat + words_of(head.book)[mode] + "0"
            raises(self, BadStream, read_telling, [head, SMALL, "0" + bits, 1], at=7)
        self.assertEqual(read_telling(head, SMALL, "11" + flat + words_of(head.book)["left"] + "0", 0)[1], 10)

    def test_vectors_beyond_reach(self):
        for reach in range(1, 5):
            head = Head(1, 0, 0, reach, (1, 0, 0, 0, 0, 2, 0, 2))
            for y, x in itertools.product(range(-9, 10), repeat=2):
                bits = "0" + "10" + long_bits(y) + long_bits(x) + "0"
                if abs(y) > reach:
                    raises(self, BadStream, read_telling, [head, SMALL, bits, 0], at=3)
                elif abs(x) > reach:
                    raises(self, BadStream, read_telling, [head, SMALL, bits, 0], at=3 + len(long_bits(y)))
                else:
                    self.assertEqual(read_telling(head, SMALL, bits, 0)[0], one(("copy", 0, (y, x), "none", ())))

    def test_vectors_beyond_reach_behind_others(self):
        head = Head(1, 0, 0, 2, (1, 0, 0, 0, 0, 2, 0, 2))
        first = "11" + "10" + long_bits(2) + long_bits(-1) + "0"
        for y, x in itertools.product(range(-9, 10), repeat=2):
            bits = first + "10" + long_bits(y) + long_bits(x) + "0"
            if abs(y + 2) > 2:
                raises(self, BadStream, read_telling, [head, SMALL, bits, 0], at=len(first) + 2)
            elif abs(x - 1) > 2:
                raises(self, BadStream, read_telling, [head, SMALL, bits, 0], at=len(first) + 2 + len(long_bits(y)))
            else:
                self.assertEqual(read_telling(head, SMALL, bits, 0)[0][1],
                                 ((0, 2, 2), ("copy", 0, (y + 2, x - 1), "none", ())))

    def test_levels_that_are_none(self):
        shape = Shape(1, 2, 0, 9)
        for grade in range(8):
            head = Head(0, 0, grade, 0, FLAT)
            for number in (0, 12 * 2 ** grade - 1, 65535):
                bits = "0" + "0" + "10" + grade_bits(1, grade) + "1" * 12 + format(number, "016b")
                raises(self, BadStream, read_telling, [head, shape, bits, 0], at=4 + len(grade_bits(1, grade)))
            for number in (12 * 2 ** grade, 65534):
                bits = "0" + "0" + "10" + grade_bits(1, grade) + "1" * 12 + format(number, "016b")
                self.assertEqual(bits_of(head, shape, read_telling(head, shape, bits, 0)[0]), bits)

    def test_all_short_bits(self):
        # Of all bits of some length: what is read are the bits, and none are the beginning of others.
        shape = Shape(1, 3, 0, 1)
        for head in (Head(1, 0, 0, 1, (2, 2, 0, 0, 0, 2, 0, 2)), Head(2, 0, 0, 0, (2, 0, 0, 0, 3, 2, 3, 2))):
            whole = {}
            for bits in map("".join, itertools.product("01", repeat=13)):
                try:
                    telling, end = read_telling(head, shape, bits, 0)
                except BadStream as error:
                    self.assertLessEqual(error.at, 13)
                    continue
                self.assertTrue(is_telling(head, shape, telling))
                self.assertEqual(plain_bits(head, shape, telling), bits[:end])
                self.assertEqual(whole.setdefault(bits[:end], telling), telling)
            self.assertGreater(len(whole), 50)
            for first, second in itertools.combinations(sorted(whole), 2):
                self.assertFalse(second.startswith(first))
                self.assertNotEqual(whole[first], whole[second])

    def test_wrong_inputs(self):
        refuses(self, read_telling, [Head(0, 0, 0, 0, FLAT), SMALL, "000", 0], [
            NO_HEAD, NO_SHAPE, (2, [None, True, 0, [], ["0"], {}, "2", "000 ", SHAPE], BadBits),
            (3, wrong_numbers(0, 3), BadAt), (3, [1, 2, 3], BadStream)])
        raises(self, BadStream, read_telling, [Head(0, 0, 0, 0, FLAT), SMALL, "", 0], at=0)


if __name__ == "__main__":
    unittest.main()
