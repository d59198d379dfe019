import random
import unittest

from helpers import NOTHINGS, SHAPE, flat, raises, refuses
from pricedreels.cuts import cut, hidden, joined, stock_of
from pricedreels.errors import BadHead, BadReel, BadWish, OtherShapes, TooMany
from pricedreels.fewest import fewest
from pricedreels.grids import Shape
from pricedreels.heads import Head
from pricedreels.reels import Reel, needed, reel_bits, shown_planes, told_planes
from pricedreels.stocks import cut_choices, least_cut, staying
from pricedreels.tellings import worth
from told import book_for, chance_head, chance_reel, chance_shape, plain_bits

PAIR = Shape(2, 2, 0, 9)
ROOT = (0, 0, 8)
ALONE = Head(0, 0, 0, 0, (1, 0, 0, 0, 0, 0, 0, 0))
STILL_HEAD = Head(1, 0, 0, 0, (1, 0, 0, 0, 0, 0, 0, 1))
BOTH_HEAD = Head(2, 0, 0, 0, (2, 0, 0, 0, 0, 0, 1, 0))
LOSSY = Head(0, 1, 0, 0, (1, 0, 0, 0, 0, 0, 0, 0))
FLAT = ((ROOT, ("flat", "none", ())),)
DEAR = ((ROOT, ("flat", "plain", (5, -3, 5, -4))),)
STILL = ((ROOT, ("still",)),)
WRONG_REELS = NOTHINGS + [SHAPE, [PAIR], (PAIR, ()), reel_bits(Reel(PAIR, [(0, (), ALONE, FLAT)]))]
NO_REEL = (0, WRONG_REELS, BadReel, {"part": None})


def heads_wrong(index):
    return [(index, [thing for thing in NOTHINGS if not isinstance(thing, Head)] + [PAIR], BadHead, {"part": None}),
            (index, [STILL_HEAD, BOTH_HEAD, Head(1, 2, 0, 0, STILL_HEAD.book)], BadHead, {"part": "kind"}),
            (index, [LOSSY, Head(0, 7, 0, 0, ALONE.book)], BadHead, {"part": "loss"})]


def some_reel(rng, most=6):
    """A reel, in which some items are lossless and made to be cheap."""
    shape = chance_shape(rng, 4)
    many = rng.randint(1, most)
    reel = chance_reel(rng, shape, many, loss=rng.choice([None, 0]))
    items, planes = [], told_planes(reel)
    for number, (show, leans, head, telling) in enumerate(reel.entries):
        if head.kind > 0 and rng.random() < 0.5:
            head = Head(head.kind, 0, 0, 0, book_for(head.kind, 3))
            telling = fewest(head, shape, rng.choice(planes[:number + 1]), [planes[lean] for lean in leans])
            planes[number] = None
        items.append((show, leans, head, telling))
        planes = told_planes(Reel(shape, [(at,) + item[1:] for at, item in enumerate(items)])) + [flat(shape, shape.low)] * many
    return Reel(shape, items)


def alone_head(rng):
    return chance_head(rng, 0, 0)


class Stocks(unittest.TestCase):
    def test_by_the_document(self):
        rng = random.Random(611)
        for _ in range(40):
            reel, head = some_reel(rng), alone_head(rng)
            leans, told, anew = stock_of(reel, head)
            self.assertEqual(leans, [tuple(sorted(set(item[1]))) for item in reel.entries])
            self.assertEqual(told, [len(plain_bits(item[2], reel.shape, item[3])) for item in reel.entries])
            self.assertEqual(anew, [worth(head, reel.shape, fewest(head, reel.shape, plane, [])) for plane in told_planes(reel)])
            self.assertEqual([leans.__class__, told.__class__, anew.__class__], [list] * 3)

    def test_leans_without_repetitions(self):
        reel = Reel(PAIR, [(0, (), ALONE, FLAT), (1, (), ALONE, FLAT), (2, (0, 0), BOTH_HEAD, FLAT_BOTH), (3, (2, 1), BOTH_HEAD, FLAT_BOTH)])
        self.assertEqual(stock_of(reel, ALONE)[0], [(), (), (0,), (1, 2)])

    def test_wrong_inputs(self):
        reel = Reel(PAIR, [(0, (), ALONE, FLAT)])
        refuses(self, stock_of, [reel, ALONE], [NO_REEL] + heads_wrong(1))


FLAT_BOTH = ((ROOT, ("both", (0, 0), "none", ())),)


class Cuts(unittest.TestCase):
    def test_by_the_document(self):
        rng = random.Random(612)
        seen_hidden = seen_anew = 0
        for _ in range(140):
            reel, head = some_reel(rng, 8), alone_head(rng)
            many = len(reel)
            wish = rng.sample(range(many), rng.randint(1, many))
            shows = [item[0] for item in reel.entries]
            stock = stock_of(reel, head)
            wanted = tuple(sorted(shows.index(place) for place in wish))
            chosen = cut_choices(stock, wanted)[0]
            found = cut(reel, wish, head)
            self.assertEqual(cut(reel, tuple(wish), head), found)
            self.assertEqual(shown_planes(found)[:len(wish)], [shown_planes(reel)[place] for place in wish])
            self.assertEqual(sum(worth(item[2], reel.shape, item[3]) for item in found.entries), least_cut(stock, wanted))
            self.assertEqual((found.shape, len(found)), (reel.shape, len(chosen)))
            unseen = [number for number in chosen if number not in wanted]
            stays = staying(stock, wanted, chosen)
            for at, (number, item) in enumerate(zip(chosen, found.entries)):
                old = reel.entries[number]
                show = wish.index(old[0]) if number in wanted else len(wish) + unseen.index(number)
                self.assertEqual(item[0], show)
                if number in stays:
                    self.assertEqual(item[1:], (tuple(chosen.index(lean) for lean in old[1]),) + old[2:])
                else:
                    self.assertEqual(item[1:3], ((), head))
                    self.assertEqual(worth(head, reel.shape, item[3]), stock[2][number])
                self.assertEqual(told_planes(found)[at], told_planes(reel)[number])
            self.assertEqual(hidden(reel, wish, head), tuple(sorted(shows[number] for number in unseen)))
            seen_hidden += unseen != []
            seen_anew += len(stays) < len(chosen)
        self.assertGreater(min(seen_hidden, seen_anew), 5)

    def test_by_hand(self):
        # The picture at 2 leans on the one at 0: it is told anew alone only if that costs less.
        reel = Reel(PAIR, [(0, (), ALONE, FLAT), (2, (0,), STILL_HEAD, STILL), (1, (1,), STILL_HEAD, STILL)])
        self.assertEqual(cut(reel, [1], ALONE), Reel(PAIR, [(0, (), ALONE, FLAT)]))
        dear = Reel(PAIR, [(0, (), ALONE, DEAR), (2, (0,), STILL_HEAD, STILL), (1, (1,), STILL_HEAD, STILL)])
        self.assertEqual(len(cut(dear, [1], ALONE)), 1)
        found = cut(dear, [1, 2], ALONE)
        self.assertEqual([item[:2] for item in found.entries], [(1, ()), (0, (0,))])
        self.assertEqual(hidden(dear, [1, 2], ALONE), ())
        # Two that lean on one that is not wanted: it is there, unseen, and told as it was.
        bright = ((ROOT, ("flat", "plain", (5, -3, 5, -4))),)
        twin = Reel(PAIR, [(1, (), ALONE, bright), (0, (0,), STILL_HEAD, STILL), (2, (0,), STILL_HEAD, STILL)])
        self.assertEqual(hidden(twin, [2, 0], ALONE), (1,))
        self.assertEqual(cut(twin, [2, 0], ALONE), Reel(PAIR, [(2, (), ALONE, bright), (1, (0,), STILL_HEAD, STILL), (0, (0,), STILL_HEAD, STILL)]))
        self.assertEqual(hidden(twin, [2], ALONE), ())
        # Five pictures lean on two, of which neither is wanted.
        stripes = [((ROOT, ("flat", "plain", levels)),) for levels in ((5, 5, -4, -4), (5, -4, 5, -4))]
        double = Reel(PAIR, [(6, (), ALONE, stripes[0]), (5, (), ALONE, stripes[1])] + [
            (show, (0, 1), BOTH_HEAD, FLAT_BOTH) for show in range(5)])
        self.assertEqual(hidden(double, [2, 0, 1, 4, 3], ALONE), (5, 6))
        self.assertEqual([item[0] for item in cut(double, [2, 0, 1, 4, 3], ALONE).entries], [5, 6, 1, 2, 0, 4, 3])

    def test_facts(self):
        rng = random.Random(613)
        for _ in range(25):
            reel, head = some_reel(rng), alone_head(rng)
            many = len(reel)
            every = list(range(many))
            stock = stock_of(reel, head)
            self.assertEqual(hidden(reel, every, head), ())
            anew = [number for number in every if stock[1][number] > stock[2][number]]
            self.assertEqual([number for number, item in enumerate(cut(reel, every, head).entries)
                              if item[1:] != reel.entries[number][1:]], anew)
            wish = rng.sample(every, rng.randint(1, many))
            less = rng.sample(wish, rng.randint(1, len(wish)))
            twice = cut(cut(reel, wish, head), [wish.index(place) for place in less], head)
            once = cut(reel, less, head)
            self.assertEqual(shown_planes(twice)[:len(less)], shown_planes(once)[:len(less)])
            self.assertGreaterEqual(sum(worth(item[2], reel.shape, item[3]) for item in twice.entries),
                                    sum(worth(item[2], reel.shape, item[3]) for item in once.entries))

    def test_wrong_inputs(self):
        reel = Reel(PAIR, [(0, (), ALONE, FLAT), (2, (0,), STILL_HEAD, STILL), (1, (1,), STILL_HEAD, STILL)])
        wishes = [thing for thing in NOTHINGS if thing not in ([1], (1,))] + [
            SHAPE, 1, [3], [-1], [0, 0], [0, 1, 0], [True], [0, True], [None], [0, "1"], "01", {0: 1}, [[0]], [0, 1, 2, 3]]
        for call in (cut, hidden):
            call(reel, [2, 0, 1], ALONE)
            refuses(self, call, [reel, [1, 0], ALONE], [NO_REEL, (1, wishes, BadWish)] + heads_wrong(2))

    def test_a_wish_ahead_of_the_head(self):
        reel = Reel(PAIR, [(0, (), ALONE, FLAT)])
        for call in (cut, hidden):
            for head in (None, STILL_HEAD, LOSSY):
                raises(self, BadWish, call, [reel, [1], head])


class Joined(unittest.TestCase):
    def test_by_the_document(self):
        rng = random.Random(614)
        for _ in range(40):
            one = some_reel(rng)
            other = chance_reel(rng, one.shape, rng.randint(1, 5))
            found = joined(one, other)
            self.assertEqual(len(found), len(one) + len(other))
            self.assertEqual(shown_planes(found), shown_planes(one) + shown_planes(other))
            self.assertEqual(found.entries[:len(one)], one.entries)
            for place in range(len(other)):
                self.assertEqual(needed(found, len(one) + place), tuple(number + len(one) for number in needed(other, place)))
            for (show, leans, head, telling), item in zip(other.entries, found.entries[len(one):]):
                self.assertEqual(item, (show + len(one), tuple(lean + len(one) for lean in leans), head, telling))
            head = alone_head(rng)
            back = cut(found, list(range(len(one), len(found))), head)
            plain = cut(other, list(range(len(other))), head)
            self.assertEqual(sum(worth(item[2], one.shape, item[3]) for item in back.entries),
                             sum(worth(item[2], one.shape, item[3]) for item in plain.entries))

    def test_limits(self):
        def flats(many):
            return Reel(PAIR, [(at, (), ALONE, FLAT) for at in range(many)])
        self.assertEqual(joined(flats(16), flats(16)), flats(32))
        self.assertEqual(joined(flats(31), flats(1)), flats(32))
        raises(self, TooMany, joined, [flats(16), flats(17)], most=32)
        raises(self, TooMany, joined, [flats(32), flats(1)], most=32)
        other = Reel(Shape(2, 2, 0, 8), [(at, (), ALONE, FLAT) for at in range(32)])
        raises(self, OtherShapes, joined, [flats(32), other])
        for shape in (Shape(1, 2, 0, 9), Shape(2, 1, 0, 9), Shape(2, 2, 1, 9)):
            raises(self, OtherShapes, joined, [flats(2), Reel(shape, [(0, (), ALONE, FLAT)])])
        refuses(self, joined, [flats(2), flats(3)], [NO_REEL, (1, WRONG_REELS, BadReel, {"part": None})])


if __name__ == "__main__":
    unittest.main()
