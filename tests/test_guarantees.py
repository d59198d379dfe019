"""What point 2 guarantees over several parts together."""

import itertools
import random
import unittest

from helpers import all_spots, flat, plane_of
from pricedreels.buffers import are_within, is_sending, least_delay, sending, strait
from pricedreels.cuts import cut, joined, stock_of
from pricedreels.errors import BadStream
from pricedreels.fewest import fewest, is_fewest, prices
from pricedreels.gains import greatest_gain, thinned
from pricedreels.grids import Shape
from pricedreels.harm import after_losses, behind, looks, rests, right, right_after, shown
from pricedreels.heads import Head
from pricedreels.likeness import alike, fewest_like
from pricedreels.lines import Line, greatest_pictures, least_pictures, rights
from pricedreels.looks import hangs_on, row_looks, row_play
from pricedreels.pieces import Reader, reader_of
from pricedreels.plans import costs_of, hold, hold_sum, is_least_plan, least_plan, planned, web_of
from pricedreels.reels import Reel, is_begun, item_sizes, needed, read_item, read_reel, reel_bits, shown_planes, told_planes
from pricedreels.renewals import is_kept, safe
from pricedreels.stocks import least_cut
from pricedreels.tellings import bits_of, does_fit, play, read_telling, worth
from pricedreels.waits import least_wait, retold, wait_of, wait_order
from pricedreels.webs import web_wait
from told import book_for, chance_head, chance_reel, chance_shape, chance_stretch, chance_telling, plain_play

ALONE = Head(0, 0, 1, 0, book_for(0))
LEANING = Head(1, 0, 1, 1, book_for(1))


def film(rng, shape, many):
    """Planes, each of them like the one ahead but for a few samples."""
    found = [plane_of(shape, rng)]
    while len(found) < many:
        rows = [list(row) for row in found[-1]]
        for y, x in rng.sample(all_spots(shape), min(2, len(all_spots(shape)))):
            rows[y][x] = rng.randint(shape.low, shape.high)
        found.append(tuple(tuple(row) for row in rows))
    return found


def stretch_of(reel):
    """The stretch that shows what a reel of at most four items does, in the order of telling."""
    return [(head, telling, tuple(number - 1 - lean for lean in leans)) for number, (_, leans, head, telling) in enumerate(reel.entries)]


class Together(unittest.TestCase):
    def test_a_film_planned_told_read_and_shown(self):
        rng = random.Random(901)
        for _ in range(6):
            shape = Shape(rng.randint(1, 4), rng.randint(1, 4), 0, 9)
            frames = film(rng, shape, rng.randint(2, 4))
            costs = costs_of(shape, frames, ALONE, LEANING)
            plan = least_plan(costs)
            self.assertIs(is_least_plan(costs, plan, hold(costs)), True)
            reel = planned(shape, frames, ALONE, LEANING, plan)
            self.assertEqual(shown_planes(reel), frames)
            self.assertEqual(sum(worth(item[2], shape, item[3]) for item in reel.entries), hold_sum(costs, hold(costs)))
            for number, (_, leans, head, telling) in enumerate(reel.entries):
                plane, references = told_planes(reel)[number], [told_planes(reel)[lean] for lean in leans]
                paper = prices(head, shape, plane, references)
                self.assertIs(is_fewest(head, shape, plane, references, telling, paper), True)
            bits = reel_bits(reel)
            self.assertEqual(read_reel(bits), reel)
            reader = Reader()
            for at in range(0, len(bits), 7):
                reader = reader_of(reader.state())
                reader.feed(bits[at:at + 7])
            self.assertEqual((reader.standing(), reader.shown()), ("whole", frames))
            # What is sent by its sizes is there in time, or a strait shows that it cannot be.
            sizes = item_sizes(reel)
            delay = least_delay(sizes, 50, None, None)
            self.assertIs(is_sending(sizes, 50, delay, None, None, sending(sizes, 50, delay, None, None)), True)
            self.assertIsNotNone(strait(sizes, 50, delay - 1, None, None))
            self.assertIs(are_within((max(sizes), 0, max(sizes)), sizes), True)
            # Each frame cut out alone is the least choice among all that could be there for it.
            for place in range(len(frames)):
                found = cut(reel, [place], ALONE)
                self.assertEqual(shown_planes(found)[0], frames[place])
                number = [item[0] for item in reel.entries].index(place)
                self.assertEqual(sum(worth(item[2], shape, item[3]) for item in found.entries), least_cut(stock_of(reel, ALONE), (number,)))

    def test_bits_and_tellings_tell_one_another(self):
        rng = random.Random(902)
        kinds = set()
        for _ in range(300):
            reel = chance_reel(rng, chance_shape(rng, 3), rng.randint(1, 3))
            bits = reel_bits(reel)
            at = rng.randrange(len(bits) + 1)
            bits = bits[:at] + "".join(rng.choice("01") for _ in range(rng.choice([0, 1, 30])))
            reader = Reader()
            reader.feed(bits)
            try:
                found = read_reel(bits)
                self.assertEqual(reel_bits(found), bits)
                self.assertEqual((reader.standing(), reader.shown()), ("whole", shown_planes(found)))
            except BadStream as error:
                self.assertEqual(reader.standing(), "begun" if is_begun(bits) else "none")
                self.assertGreaterEqual(error.at, 0)
                solid = bits[:len(bits) - len(reader.loose())]
                self.assertLessEqual(len(solid), error.at)
                one = read_reel(solid + reader.ending())
                for number in range(reader.many_told()):
                    self.assertEqual(reader.sight(number), told_planes(one)[number])
                self.assertEqual(shown_planes(one)[:len(reader.shown())], reader.shown())
            kinds.add(reader.standing())
        self.assertEqual(kinds, {"whole", "begun", "none"})

    def test_reading_never_looks_at_samples(self):
        # One and the same item, read behind whatever pictures, is the same telling; only what it plays is another.
        rng = random.Random(903)
        for _ in range(40):
            shape = chance_shape(rng, 5)
            head = chance_head(rng)
            telling = chance_telling(rng, head, shape)
            bits = bits_of(head, shape, telling)
            self.assertEqual(read_telling(head, shape, bits + "01", 0), (telling, len(bits)))
            leans = tuple(rng.randrange(2) for _ in range(head.kind))
            firsts = [chance_reel(rng, shape, 2, kinds=(0,)).entries for _ in range(2)]
            reels = [Reel(shape, [(at,) + item[1:] for at, item in enumerate(items)] + [(2, leans, head, telling)]) for items in firsts]
            found = [read_item(shape, 3, (0, 1), reel_bits(reel), 33 + sum(item_sizes(reel)[:2]))[0] for reel in reels]
            self.assertEqual(found[0], found[1])
            planes = [[plane_of(shape, rng) for _ in range(head.kind)] for _ in range(2)]
            # No sample falls when earlier ones rise, and a change of at most e makes changes of at most e.
            high = [tuple(tuple(max(a, b) for a, b in zip(*lines)) for lines in zip(*pair)) for pair in zip(*planes)]
            most = max([0] + [abs(a - b) for one, two in zip(planes[0], high) for lines in zip(one, two) for a, b in zip(*lines)])
            low_shown, high_shown = play(head, shape, telling, planes[0]), play(head, shape, telling, high)
            for one, two in zip(low_shown, high_shown):
                self.assertTrue(all(a <= b <= a + most for a, b in zip(one, two)))

    def test_a_line_that_loses_and_lost_pieces_are_one_thing(self):
        rng = random.Random(904)
        for _ in range(40):
            shape, many = chance_shape(rng, 4), rng.randint(1, 4)
            reel = chance_reel(rng, shape, many)
            stretch, store = stretch_of(reel), [flat(shape, shape.low)] * 4
            self.assertEqual(shown(shape, 4, stretch, store), told_planes(reel))
            for count in range(many + 1):
                for lost in itertools.combinations(range(many), count):
                    lot = tuple(number for number in range(many) if number not in lost)
                    spans = after_losses(shape, 4, stretch, store, lost)
                    self.assertEqual([low for low, _ in spans], least_pictures(reel, lot))
                    self.assertEqual([high for _, high in spans], greatest_pictures(reel, lot))
                    whole = [reel.entries[number][0] for number, part in enumerate(right_after(shape, 4, stretch, store, lost))
                             if part == all_spots(shape)]
                    if shape.low < shape.high:
                        self.assertEqual(rights(reel, lot), tuple(sorted(whole)))
            # With what is needed for a place its picture is known.
            for place in range(many):
                self.assertIn(place, rights(reel, needed(reel, place)))

    def test_renewals_make_harm_die_out(self):
        rng = random.Random(905)
        shape, head = Shape(2, 4, 0, 9), Head(1, 0, 0, 2, (2, 0, 0, 0, 0, 2, 0, 2))
        renewals = [((0, 0, 2), (0, 2, 2))]
        told = (((0, 0, 2), ("flat", "plain", (1, 2, 3, 4))), ((0, 2, 2), ("flat", "none", ())))
        self.assertIs(is_kept(shape, 2, renewals, [(head, told, (0,))]), True)
        self.assertEqual(safe(shape, 2, renewals), [all_spots(shape)])
        self.assertEqual(right(shape, 1, [(head, told, (0,))]), [all_spots(shape)])
        kind, rounds, store = rests(shape, 1, [(head, told, (0,))])
        self.assertEqual((kind, rounds), ("healed", 1))
        self.assertEqual(behind(shape, 1, [(head, told, (0,))], [plane_of(shape, rng)]), store)

    def test_rows_and_stretches_look_at_the_same(self):
        rng = random.Random(906)
        for _ in range(40):
            shape, many = chance_shape(rng, 4), rng.randint(1, 3)
            stretch = chance_stretch(rng, shape, 1, many, kinds=(1,))
            row = [(head, telling) for head, telling, _ in stretch]
            spot = rng.choice(all_spots(shape))
            self.assertEqual(looks(shape, 1, stretch, many - 1, spot), list(row_looks(shape, row, spot)))
            plane = plane_of(shape, rng)
            self.assertEqual(shown(shape, 1, stretch, [plane])[-1], row_play(shape, row, [plane]))
        for _ in range(20):
            shape = Shape(1, 2, 0, 2)
            stretch = chance_stretch(rng, shape, 1, 2, kinds=(1,), most=2)
            row = [(head, telling) for head, telling, _ in stretch]
            for spot in all_spots(shape):
                self.assertEqual(spot in right(shape, 1, stretch)[1], hangs_on(shape, row, spot) == ())

    def test_a_frame_between_is_left_out(self):
        # If one frame is like two, the frame between can be left out, whatever was shown ahead of both.
        rng = random.Random(907)
        found = 0
        for _ in range(60):
            shape = Shape(1, rng.randint(1, 3), 0, rng.randint(1, 2))
            heads = [Head(1, 0, 0, 1, book_for(1)) for _ in range(2)]
            row = [(head, chance_telling(rng, head, shape, 1)) for head in heads]
            telling = fewest_like(LEANING, shape, row)
            if telling is None:
                continue
            found += 1
            self.assertIs(alike(shape, row, [(LEANING, telling)]), True)
            for _ in range(4):
                plane = plane_of(shape, rng)
                first = (0, (), ALONE, fewest(ALONE, shape, plane, []))
                long = Reel(shape, [first, (2, (0,)) + row[0], (1, (1,)) + row[1]])
                short = Reel(shape, [first, (1, (0,), LEANING, telling)])
                self.assertEqual(shown_planes(long)[:2], shown_planes(short))
                self.assertIs(does_fit(LEANING, shape, telling, [plane]), True)
        self.assertGreater(found, 20)

    def test_orders_webs_and_reels(self):
        rng = random.Random(908)
        for _ in range(40):
            reel = chance_reel(rng, Shape(1, 1, 0, 3), rng.randint(1, 6))
            self.assertEqual(web_wait(web_of(reel)), least_wait(reel))
            order = wait_order(reel)
            self.assertEqual(wait_of(retold(reel, order)), least_wait(reel))
            self.assertEqual(shown_planes(retold(reel, order)), shown_planes(reel))
            web, sizes = web_of(reel), [0] * len(reel)
            for show, size in zip([item[0] for item in reel.entries], item_sizes(reel)):
                sizes[show] = size
            chosen = thinned(web, [100] * len(reel), sizes, (1, 1))
            self.assertEqual(sum(100 - sizes[frame] for frame in chosen), greatest_gain(web, [100 - size for size in sizes]))

    def test_joined_reels_on_one_line(self):
        rng = random.Random(909)
        for _ in range(10):
            shape = chance_shape(rng, 3)
            one, other = chance_reel(rng, shape, rng.randint(1, 2)), chance_reel(rng, shape, rng.randint(1, 3))
            both = joined(one, other)
            self.assertEqual(read_reel(reel_bits(both)), both)
            line = Line(both, max(item_sizes(both)), 0)
            for number in range(len(both)):
                line.send(number)
                line.tick()
            self.assertEqual(line.there(), tuple(range(len(both))))
            expected = tuple(sorted(item[0] for number, item in enumerate(both.entries)
                                    if item[0] in rights(both, tuple(range(item[0] + 1)))))
            self.assertEqual(line.right(), expected)
            self.assertEqual(plain_play(both.entries[0][2], shape, both.entries[0][3], [])[0], told_planes(both)[0])


if __name__ == "__main__":
    unittest.main()
