import itertools
import random
import unittest

from helpers import NOTHINGS, all_blocks, all_spots, flat, raises, refuses, wrong_planes, wrong_shapes
from pricedreels.errors import BadHead, BadRow, BadShape, OtherKinds, TooMany
from pricedreels.fewest import fewest
from pricedreels.grids import Shape, place_of, spots
from pricedreels.heads import Head
from pricedreels.lifts import lifted
from pricedreels.likeness import (alike, apart, fewest_like, is_fewest_like, is_like_prices, is_parting, is_strand, like_prices,
                                  parting, strand)
from pricedreels.looks import meaning, row_play
from pricedreels.tellings import bits_of, does_fit, is_telling, play, worth
from test_looks import (ALONE, BOTH, COPY, FLAT, HALF, LINE, ROOT, SHAPES, STILL, all_references, chance_row, plain_row, seen_row,
                        wrong_rows)
from told import (book_for, chance_head, chance_telling, guesses_for, items_of_choice, many_cells, plain_play,
                  rests_for, starts, vector_behind, vectors)

COPIED = (((0, 0, 2), ("copy", 0, (0, 0), "none", ())),)
NO_SHAPE = (0, wrong_shapes(), BadShape, {"part": None})


class Likeness(unittest.TestCase):
    def test_example(self):
        one, other = [(COPY, HALF)], [(COPY, COPIED)]
        self.assertIs(alike(LINE, one, other), False)
        self.assertEqual(parting(LINE, one, other), ((0, 0), [((0, 2),)]))
        self.assertEqual([row_play(LINE, row, [((0, 2),)])[0][0] for row in (one, other)], [1, 0])
        self.assertEqual(apart(LINE, one, other), 2)
        self.assertEqual([row_play(LINE, row, [((3, 0),)])[0][0] for row in (one, other)], [1, 3])
        self.assertIs(is_parting(LINE, one, other, ((0, 0), [((3, 0),)])), True)
        self.assertIs(is_parting(LINE, one, other, ((0, 1), [((3, 0),)])), False)

    def test_by_all_references(self):
        rng = random.Random(711)
        outcomes = {True: 0, False: 0}
        for trial in range(160):
            shape = SHAPES[trial % len(SHAPES)]
            kind = rng.choice([0, 1, 1, 2]) if shape.height * shape.width < 4 else 1
            one, other = [chance_row(rng, shape, kind, rng.randint(1, 3) if kind == 1 else 1, 2) for _ in range(2)]
            if rng.random() < 0.3:
                # Told in another way, or once more as it is, which may be the same or not.
                other = one[:2] + rng.choice([[(COPY, ((ROOT, ("copy", 0, (0, 0), "none", ())),))], []]) if kind == 1 else list(one)
            shown = [(references, plain_row(shape, one, references), plain_row(shape, other, references))
                     for references in all_references(shape, one)]
            parts = [((y, x), list(references)) for y, x in all_spots(shape) for references, first, second in shown
                     if first[y][x] != second[y][x]]
            outcomes[parts == []] += 1
            self.assertIs(alike(shape, one, other), parts == [])
            self.assertIs(alike(shape, tuple(other), tuple(one)), parts == [])
            self.assertEqual(parting(shape, one, other), min(parts) if parts else None)
            self.assertEqual(apart(shape, one, other), max(abs(first[y][x] - second[y][x]) for _, first, second in shown
                                                           for y, x in all_spots(shape)))
            for spot, references in rng.sample(parts, min(3, len(parts))):
                self.assertIs(is_parting(shape, one, other, (spot, references)), True)
                self.assertIs(is_parting(shape, other, one, (spot, tuple(references))), True)
            for _ in range(4):
                references, first, second = rng.choice(shown)
                y, x = rng.choice(all_spots(shape))
                self.assertIs(is_parting(shape, one, other, ((y, x), list(references))), first[y][x] != second[y][x])
            meanings = [[meaning(shape, row, spot) for spot in all_spots(shape)] for row in (one, other)]
            self.assertEqual(meanings[0] == meanings[1], parts == [])
        self.assertGreater(min(outcomes.values()), 10)

    def test_apart_is_a_distance(self):
        rng = random.Random(712)
        for _ in range(30):
            shape = rng.choice(SHAPES)
            rows = [chance_row(rng, shape, 1, rng.randint(1, 2), 2) for _ in range(3)]
            ways = {(a, b): apart(shape, rows[a], rows[b]) for a in range(3) for b in range(3)}
            for a, b, c in itertools.permutations(range(3)):
                self.assertLessEqual(ways[(a, c)], ways[(a, b)] + ways[(b, c)])
                self.assertEqual(ways[(a, b)], ways[(b, a)])
                self.assertEqual(ways[(a, b)] == 0, alike(shape, rows[a], rows[b]))
            more = chance_row(rng, shape, 1, 1, 2)
            self.assertLessEqual(apart(shape, rows[0] + more, rows[1] + more), ways[(0, 1)])

    def test_parted_by_the_highest_numbers_alone(self):
        # Risen and fallen again, only the highest number is not what it was.
        shape = Shape(1, 2, -3, 1)
        moved = [(COPY, ((ROOT, ("copy", 0, (0, 0), "plain", (level, 0))),)) for level in (1, -1)]
        self.assertEqual(parting(shape, moved, [(COPY, STILL)]), ((0, 0), [((1, -3),)]))
        self.assertEqual(apart(shape, moved, [(COPY, STILL)]), 1)
        self.assertEqual(parting(shape, moved[::-1], [(COPY, STILL)]), ((0, 0), [((-3, -3),)]))
        half = (COPY, ((ROOT, ("copy", 0, (0, 1), "none", ())),))
        self.assertEqual(parting(shape, [half], [half] + moved), ((0, 0), [((1, 1),)]))

    def test_is_parting_of_any_value(self):
        one, other = [(COPY, HALF)], [(COPY, COPIED)]
        plane = ((3, 0),)
        for thing in NOTHINGS + [LINE, [(0, 0), [plane]], ((0, 0),), ((0, 0), [plane], 0), ((0, 0), plane), ((0, 0), []), ((0, 0), None),
                                 ((0, 0), [plane] * 2), ([0, 0], [plane]), ((0, 2), [plane]), ((1, 0), [plane]), ((-1, 0), [plane]),
                                 ((0, -2), [plane]), ((False, 0), [plane]), ((0, False), [plane]), (None, [plane]), ((0, 0), {0: plane}),
                                 ((0, 0), [[plane]]), ((0, 0), [((4, 0),)]), ((0, 0), [((0, 0),)])]:
            self.assertIs(is_parting(LINE, one, other, thing), False, thing)
        for wrong in wrong_planes(LINE):
            self.assertIs(is_parting(LINE, one, other, ((0, 0), [wrong])), False)
        self.assertIs(is_parting(LINE, one, other, ((0, 0), (plane,))), True)
        alone, dark = [(ALONE, FLAT)], [(ALONE, ((ROOT, ("flat", "plain", (0, 1))),))]
        self.assertEqual(parting(LINE, alone, dark), ((0, 1), []))
        self.assertIs(is_parting(LINE, alone, dark, ((0, 1), ())), True)
        self.assertIs(is_parting(LINE, alone, dark, ((0, 0), [])), False)

    def test_wrong_inputs(self):
        good = [(COPY, STILL)]
        for call, more in ((alike, []), (parting, []), (is_parting, [None]), (apart, [])):
            refuses(self, call, [LINE, good, good * 3] + more, [NO_SHAPE, (1, wrong_rows(), BadRow), (2, wrong_rows(), BadRow)])
            for one, other in itertools.permutations([good, [(ALONE, FLAT)], [(BOTH, FLAT)]], 2):
                raises(self, OtherKinds, call, [LINE, one, other] + more)

    def test_limits(self):
        half = [(COPY, ((ROOT, ("copy", 0, (0, 1), "none", ())),))]
        still = [(COPY, ((ROOT, ("copy", 0, (0, 2), "none", ())),))]
        for high, fails in ((63, False), (64, True)):
            shape = Shape(1, 2, 0, high)
            for call in (alike, parting, apart):
                for one, other in ((half, still), (still, half), (half, half)):
                    if fails:
                        raises(self, TooMany, call, [shape, one, other], most=4096)
                    else:
                        call(shape, one, other)
                raises(self, OtherKinds, call, [shape, half, [(ALONE, FLAT)]])
                call(shape, still, still)
            plane = ((high, 0),)
            self.assertIs(is_parting(shape, half, still, ((0, 0), [plane])), True)
        # What the one and the other look at counts together.
        low = [(COPY, ((ROOT, ("copy", 0, (0, 0), "none", ())),))]
        for high, fails in ((63, False), (64, True)):
            shape = Shape(1, 2, 0, high)
            if fails:
                raises(self, TooMany, alike, [shape, low, still], most=4096)
            else:
                self.assertIs(alike(shape, low, still), False)
                self.assertEqual(apart(shape, low, still), 63)
        shape, row = seen_row(6)
        self.assertIs(alike(shape, row, row), True)
        shape, row = seen_row(7)
        for call in (alike, parting, apart):
            raises(self, TooMany, call, [shape, row, row], most=4096)
        self.assertIs(alike(Shape(13, 7, 4, 4), row, row), True)


def chance_of_kind(rng, shape, kind):
    return chance_row(rng, shape, kind, rng.randint(1, 3) if kind == 1 else 1, 2)


def small_head(rng, kind):
    return Head(kind, 0, rng.randrange(3), rng.randint(0, 2) if kind else 0, rng.choice([
        book_for(kind), chance_head(rng, kind, 0, 0).book, (2, 3, 3, 0, 4, 3 if kind else 0, 4 if kind == 2 else 0, 2 if kind else 0)]))


def common_choices(head, shape, block, begun, last, shown, levels):
    """The choices of common steps from a node that begin so, by all references; levels nearest to 0."""
    width = len({x for _, x in spots(shape, block)})
    found = []
    for start in begun:
        rests = []
        for references, plane in shown:
            ahead = tuple(tuple(plane[y][x] for x in range(shape.width)) for y in range(shape.height))
            guesses = guesses_for(shape, block, start + ("none", ()), last, ahead, list(references))
            rests.append([(guess, plane[y][x]) for guess, (y, x) in zip(guesses, spots(shape, block))])
        columns = list(zip(*rests))
        if all(guess == sample for column in columns for guess, sample in column):
            found.append(start if start == ("still",) else start + ("none", ()))
        if start == ("still",):
            continue
        plain = []
        for column in columns:
            does = [level for level in levels if all(
                min(max(guess + level, shape.low), shape.high) == sample for guess, sample in column)]
            plain.append(min(does, key=abs) if does else None)
        if None not in plain:
            found.append(start + ("plain", tuple(plain)))
        steady = [{sample - guess for guess, sample in column} for column in columns]
        if all(len(part) == 1 for part in steady):
            flat_rests = [part.pop() for part in steady]
            rows = tuple(tuple(flat_rests[at:at + width]) for at in range(0, len(flat_rests), width))
            found.append(start + ("lifted", tuple(number for line in lifted(rows) for number in line)))
    return found


def plain_steps(head, shape, row):
    """For each node the costs of its common steps, and where they lead."""
    shown = [(references, plain_row(shape, row, references)) for references in all_references(shape, row)]
    reach = head.reach if head.kind else 0
    levels = range(shape.low - shape.high, shape.high - shape.low + 1)
    found = {(place, last): [] for place in range(many_cells(shape)) for last in vectors(reach)}
    for block in all_blocks(shape):
        place, end = place_of(shape, block)
        larger = [other for other in all_blocks(shape) if place_of(shape, other)[0] == place and other[2] > block[2]]
        ahead = len(larger) + (1 if block[2] > 2 else 0)
        begun = starts(head, shape, block)
        choices = common_choices(head, shape, block, [start for start in begun if start != ("still",)], (0, 0), shown, levels)
        for last in vectors(reach):
            stills = common_choices(head, shape, block, [start for start in begun if start == ("still",)], last, shown, levels)
            for choice in choices + stills:
                cost = ahead + sum(map(len, items_of_choice(head, choice, last)))
                found[(place, last)].append((cost, (end, vector_behind(choice, last))))
    return found


def plain_prices(shape, steps):
    """The least costs from all live nodes, by the common steps."""
    found, end = {}, many_cells(shape)
    for node in sorted(steps, reverse=True):
        costs = [cost + (0 if behind[0] == end else found[behind]) for cost, behind in steps[node]
                 if behind[0] == end or behind in found]
        if costs:
            found[node] = min(costs)
    return found


class Fewest(unittest.TestCase):
    def test_example(self):
        # b, b, told twice, is told once.
        twice = [(COPY, ((ROOT, ("copy", 0, (0, 2), "none", ())),))] * 2
        found = fewest_like(COPY, LINE, twice)
        self.assertEqual(found, ((ROOT, ("copy", 0, (0, 2), "none", ())),))
        self.assertIs(is_fewest_like(COPY, LINE, twice, found, like_prices(COPY, LINE, twice)), True)
        self.assertIsNone(fewest_like(Head(1, 0, 0, 1, COPY.book), LINE, twice))
        self.assertIsNone(fewest_like(Head(1, 0, 0, 2, (1, 1, 0, 0, 0, 0, 0, 0)), LINE, twice))
        halves = [(COPY, HALF)] * 2
        self.assertIsNone(fewest_like(COPY, LINE, halves))
        self.assertIsNone(like_prices(COPY, LINE, halves))
        self.assertEqual(strand(COPY, LINE, halves), ((0, (0, 0)),))
        self.assertIs(is_strand(COPY, LINE, halves, ((0, (0, 0)),)), True)

    def test_by_all_references(self):
        rng = random.Random(721)
        outcomes = {True: 0, False: 0}
        for trial in range(120):
            shape = [Shape(1, 2, 0, 2), Shape(1, 1, 0, 3), Shape(2, 2, 0, 1), Shape(1, 4, 0, 1), Shape(1, 3, 0, 1), Shape(1, 2, 3, 3),
                     Shape(3, 1, 0, 1), Shape(1, 6, 0, 1)][trial % 8]
            kind = rng.choice([0, 1, 1, 2]) if shape.height * shape.width < 3 else rng.choice([0, 1, 1, 1])
            head, row = small_head(rng, kind), chance_of_kind(rng, shape, kind)
            if rng.random() < 0.3:
                row = [(head, chance_telling(rng, head, shape, 1))]
            elif kind == 1:
                other = Head(1, 0, 0, 1, book_for(1))
                row = [(other, chance_telling(rng, other, shape, 1)) for _ in range(rng.randint(1, 3))]
                if rng.random() < 0.6:
                    head = Head(1, 0, 0, rng.choice([0, 0, 1]), rng.choice([(1, 0, 0, 0, 0, 2, 0, 2), (3, 2, 0, 0, 0, 0, 0, 1)]))
            steps = plain_steps(head, shape, row)
            expected = plain_prices(shape, steps)
            start = (0, (0, 0))
            outcomes[start in expected] += 1
            found, paper, told = fewest_like(head, shape, row), like_prices(head, shape, row), strand(head, shape, row)
            if start not in expected:
                self.assertEqual((found, paper), (None, None))
                reached, waiting = {start}, [start]
                while waiting:
                    for _, behind in steps[waiting.pop()]:
                        if behind not in reached:
                            reached.add(behind)
                            waiting.append(behind)
                self.assertEqual(told, tuple(sorted(reached)))
                self.assertIs(is_strand(head, shape, row, told), True)
                self.assertIs(is_like_prices(head, shape, row, expected), False)
                nodes = [node for node in steps if node not in expected]
                self.assertIs(is_strand(head, shape, row, tuple(sorted(nodes))), True)
                for node in nodes[:8]:
                    other = tuple(sorted(set(told) ^ {node}))
                    right = start in other and all(behind in other for each in other for _, behind in steps[each])
                    self.assertIs(is_strand(head, shape, row, other), right)
                continue
            self.assertIsNone(told)
            self.assertIs(is_strand(head, shape, row, tuple(sorted(steps))), False)
            self.assertEqual(paper, expected)
            self.assertEqual(list(paper), sorted(paper))
            self.assertIs(is_telling(head, shape, found), True)
            self.assertEqual(worth(head, shape, found), expected[start])
            for references in all_references(shape, row):
                self.assertEqual(plain_play(head, shape, found, references), (plain_row(shape, row, references), True))
            for references in rng.sample(all_references(shape, row), 1):
                least = worth(head, shape, fewest(head, shape, plain_row(shape, row, references), list(references)))
                self.assertLessEqual(least, expected[start])
            self.assertIs(is_fewest_like(head, shape, row, found, paper), True)
            self.judge_prices(rng, head, shape, row, steps, expected)
            # A telling that is like the row and fits always is told with no more bits by the fewest.
            self.assertEqual(like_prices(head, shape, [(head, found)]), expected)
            self.assertEqual(worth(head, shape, fewest_like(head, shape, [(head, found)])), expected[start])
        self.assertGreater(min(outcomes.values()), 12, outcomes)

    def judge_prices(self, rng, head, shape, row, steps, expected):
        end = many_cells(shape)

        def are_prices(numbers):
            return set(numbers) == set(expected) and all(
                cost >= numbers[node] - numbers.get(behind, 0) for node in numbers for cost, behind in steps[node]
                if behind in numbers or behind[0] == end)
        for _ in range(4):
            numbers = {node: number + rng.choice([0, 0, 0, 1, -1, -5]) for node, number in expected.items()}
            self.assertIs(is_like_prices(head, shape, row, numbers), are_prices(numbers))
            numbers = {node: number for node, number in expected.items() if rng.random() < 0.9}
            self.assertIs(is_like_prices(head, shape, row, numbers), are_prices(numbers))
        dead = [node for node in steps if node not in expected]
        for node in dead[:2]:
            self.assertIs(is_like_prices(head, shape, row, {**expected, node: 0}), False)

    def test_no_telling_with_fewer_bits(self):
        rng = random.Random(722)
        for trial in range(16):
            shape = [Shape(1, 2, 0, 1), Shape(1, 1, 0, 2), Shape(1, 2, 0, 2)][trial % 3]
            kind = trial % 2
            head = Head(kind, 0, 0, rng.randint(0, 1) if kind else 0, (1, 0, 0, 0, 0, 2 if kind else 0, 0, 3 if kind else 0))
            row = chance_of_kind(rng, shape, kind)
            everything = all_references(shape, row)
            shown = [plain_row(shape, row, references) for references in everything]
            spread = shape.high - shape.low + 2
            best = None
            for block in all_blocks(shape):
                for start in starts(head, shape, block):
                    tried = [start] if start == ("still",) else [start + ("none", ())] + [
                        start + (way, levels) for way in ("plain", "lifted")
                        for levels in itertools.product(range(-spread, spread + 1), repeat=len(spots(shape, block)))]
                    for choice in tried:
                        telling = ((block, choice),)
                        if all(plain_play(head, shape, telling, references) == (plane, True)
                               for references, plane in zip(everything, shown)):
                            many = len(bits_of(head, shape, telling))
                            best = many if best is None else min(best, many)
                            self.assertIs(is_fewest_like(head, shape, row, telling, like_prices(head, shape, row)),
                                          many == like_prices(head, shape, row)[(0, (0, 0))])
            found = fewest_like(head, shape, row)
            self.assertEqual(None if found is None else worth(head, shape, found), best)

    def test_lengthened_by_what_changes_nothing(self):
        rng = random.Random(723)
        for _ in range(25):
            shape = rng.choice([Shape(1, 2, 0, 2), Shape(2, 2, 0, 1), Shape(1, 4, 0, 1)])
            head = small_head(rng, 1)
            row = chance_row(rng, shape, 1, rng.randint(1, 2), 2)
            longer = row + [(COPY, STILL)]
            self.assertIs(alike(shape, row, longer), True)
            self.assertEqual(like_prices(head, shape, row), like_prices(head, shape, longer))
            self.assertEqual(strand(head, shape, row), strand(head, shape, longer))

    def test_a_row_of_one_has_one(self):
        rng = random.Random(724)
        for _ in range(40):
            shape, kind = rng.choice([Shape(1, 2, 0, 2), Shape(2, 2, 0, 1), Shape(1, 5, 0, 1)]), rng.choice([0, 1])
            head = small_head(rng, kind)
            telling = chance_telling(rng, head, shape, 2)
            always = all(does_fit(head, shape, telling, list(references)) for references in all_references(shape, [(head, telling)]))
            found = fewest_like(head, shape, [(head, telling)])
            self.assertIsNotNone(found)
            if always:
                self.assertLessEqual(worth(head, shape, found), worth(head, shape, telling))
            paper = like_prices(head, shape, [(head, telling)])
            self.assertIs(is_fewest_like(head, shape, [(head, telling)], telling, paper),
                          always and worth(head, shape, telling) == paper[(0, (0, 0))])

    def test_any_values(self):
        row = [(COPY, COPIED)]
        found, paper = fewest_like(COPY, LINE, row), like_prices(COPY, LINE, row)
        nodes = list(paper)
        wrongs = [thing for thing in NOTHINGS] + [LINE, list(paper), tuple(paper.items()), {**paper, (0, (0, 3)): 0}, {**paper, (1, (0, 0)): 0}]
        wrongs += [{node: (number if node != nodes[-1] else part) for node, number in paper.items()} for part in (True, None, "1", (1,))]
        wrongs += [{((False, node[1]) if node == nodes[0] else node): number for node, number in paper.items()}]
        wrongs += [{node: number for node, number in paper.items() if node != nodes[3]}]
        for thing in wrongs:
            self.assertIs(is_like_prices(COPY, LINE, row, thing), False, thing)
            self.assertIs(is_fewest_like(COPY, LINE, row, found, thing), False, thing)
        self.assertIs(is_like_prices(COPY, LINE, row, {node: number - 3 for node, number in paper.items()}), True)
        self.assertIs(is_fewest_like(COPY, LINE, row, found, {node: number - 1 for node, number in paper.items()}), False)
        self.assertIs(is_like_prices(COPY, LINE, row, {node: number + 1 for node, number in paper.items()}), False)
        for telling in NOTHINGS + [LINE, list(found), HALF, ((ROOT, ("copy", 0, (0, 3), "none", ())),), FLAT]:
            self.assertIs(is_fewest_like(COPY, LINE, row, telling, paper), False, telling)
        halves, good = [(COPY, HALF)] * 2, ((0, (0, 0)),)
        for thing in NOTHINGS + [LINE, list(good), good * 2, ((0, (0, 0)), (0, (0, 0))), ([0, (0, 0)],), ((0, [0, 0]),), ((False, (0, 0)),),
                                 ((0, (False, 0)),), ((0, (0, 0)), None), ((0,),), ((0, (0, 0), 0),), ((1, (0, 0)),), ((0, (0, 3)),),
                                 ((0, (0, 1)),), ((0, (0, 1)), (0, (0, 0))), ((0, (0, 0)), (1, (0, 0))), ((-1, (0, 0)), (0, (0, 0)))]:
            self.assertIs(is_strand(COPY, LINE, halves, thing), False, thing)
        self.assertIs(is_strand(COPY, LINE, halves, ((0, (0, 0)), (0, (0, 1)))), True)
        self.assertIs(is_strand(COPY, LINE, row, good), False)

    def test_wrong_inputs(self):
        good = [(COPY, STILL)]
        for call, more in ((fewest_like, []), (like_prices, []), (is_like_prices, [None]), (is_fewest_like, [None, None]), (strand, []),
                           (is_strand, [None])):
            refuses(self, call, [COPY, LINE, good * 3] + more, [
                (0, [thing for thing in NOTHINGS if not isinstance(thing, Head)] + [LINE], BadHead, {"part": None}),
                (0, [Head(1, 1, 0, 0, COPY.book), Head(2, 7, 0, 0, BOTH.book)], BadHead, {"part": "loss"}),
                (1, wrong_shapes(), BadShape, {"part": None}), (2, wrong_rows(), BadRow)])
            for head, row in itertools.product([COPY, ALONE, BOTH], [good, [(ALONE, FLAT)], [(BOTH, FLAT)]]):
                if head.kind != row[0][0].kind:
                    raises(self, OtherKinds, call, [head, LINE, row] + more)
                else:
                    call(head, LINE, row, *more)

    def test_limits_of_steps(self):
        # 81 vectors, 6 cells: 39366 steps; one cell more is too many.
        head = Head(1, 0, 0, 4, (1, 0, 0, 0, 0, 2, 0, 0))
        middle = [(COPY, FLAT)]
        shape = Shape(2, 12, 4, 4)
        wide = [(COPY, (((0, 0, 8), ("flat", "none", ())), ((0, 8, 8), ("flat", "none", ()))))]
        self.assertIsNotNone(fewest_like(head, shape, wide))
        for call, more in ((fewest_like, []), (like_prices, []), (is_like_prices, [None]), (is_fewest_like, [None, None]), (strand, []),
                           (is_strand, [None])):
            raises(self, TooMany, call, [head, Shape(2, 13, 4, 4), wide] + more, most=40000)
            raises(self, OtherKinds, call, [head, Shape(2, 13, 4, 4), [(ALONE, wide[0][1])]] + more)
            # Ahead of the other limit.
            raises(self, TooMany, call, [head, Shape(2, 13, 0, 511), wide] + more, most=40000)
        self.assertIsNotNone(fewest_like(head, LINE, middle))

    def test_limits_of_ways(self):
        calls = ((fewest_like, []), (like_prices, []), (is_like_prices, [None]), (is_fewest_like, [None, None]), (strand, []), (is_strand, [None]))

        def judged(head, shape, row, fails):
            for call, more in calls:
                if fails:
                    raises(self, TooMany, call, [head, shape, row] + more, most=256)
                else:
                    call(head, shape, row, *more)
        still, half = [(COPY, STILL)], [(COPY, HALF)]
        flat_only = Head(1, 0, 0, 4, (1, 0, 0, 0, 0, 0, 0, 0))
        for high, fails in ((255, False), (256, True)):
            judged(flat_only, Shape(1, 2, 0, high), still, fails)
        for high, fails in ((15, False), (16, True)):
            shape = Shape(1, 2, 0, high)
            # The row itself looks at two samples; or at one, and the guess at another one.
            judged(flat_only, shape, half, fails)
            judged(Head(1, 0, 0, 2, (1, 0, 0, 0, 0, 2, 0, 0)), shape, still, fails)
            judged(Head(1, 0, 0, 1, (1, 0, 0, 0, 0, 2, 0, 0)), shape, still, fails)
            judged(Head(1, 0, 0, 0, (1, 0, 0, 0, 0, 2, 0, 0)), shape, still, False)
            # "still" guesses by any vector within reach, though nothing leads to it without "copy".
            judged(Head(1, 0, 0, 2, (1, 0, 0, 0, 0, 0, 0, 2)), shape, still, fails)
            judged(Head(1, 0, 0, 0, (1, 0, 0, 0, 0, 0, 0, 2)), shape, still, False)
            # Both references count, each by its own guess.
            both = [(BOTH, ((ROOT, ("copy", 0, (0, 0), "none", ())),))]
            judged(Head(2, 0, 0, 0, (1, 0, 0, 0, 0, 2, 0, 0)), shape, both, fails)
            judged(Head(2, 0, 0, 0, (1, 0, 0, 0, 0, 0, 2, 0)), shape, both, fails)
            judged(Head(2, 0, 0, 0, (1, 0, 0, 0, 0, 0, 0, 2)), shape, both, False)
            other = [(BOTH, ((ROOT, ("copy", 1, (0, 0), "none", ())),))]
            judged(Head(2, 0, 0, 0, (1, 0, 0, 0, 0, 0, 0, 2)), shape, other, fails)
        # What lies ahead is taken as the row tells it: a guess from the left looks at what the left sample of the row looks at.
        for high, fails in ((15, False), (16, True)):
            shape = Shape(1, 4, 0, high)
            row = [(COPY, (((0, 0, 2), ("copy", 0, (0, 0), "none", ())), ((0, 2, 2), ("copy", 0, (0, 0), "none", ()))))]
            judged(Head(1, 0, 0, 0, (1, 2, 0, 0, 0, 3, 0, 3)), shape, row, fails)
            judged(Head(1, 0, 0, 0, (1, 0, 0, 0, 0, 3, 0, 3)), shape, row, False)
            row = [(COPY, (((0, 0, 2), ("flat", "none", ())), ((0, 2, 2), ("copy", 0, (0, 0), "none", ()))))]
            judged(Head(1, 0, 0, 0, (1, 2, 0, 0, 0, 0, 0, 0)), shape, row, False)
        judged(Head(1, 0, 0, 2, book_for(1)), Shape(1, 4, 7, 7), [(COPY, ((ROOT, ("copy", 0, (0, 0), "none", ())),))], False)

    def test_guesses_from_what_the_last_pair_shows(self):
        shape = Shape(1, 4, 0, 3)
        copied = (COPY, ((ROOT, ("copy", 0, (0, 0), "none", ())),))
        left = Head(1, 0, 0, 0, (2, 2, 0, 0, 0, 2, 0, 0))
        shown = (left, (((0, 0, 2), ("flat", "none", ())), ((0, 2, 2), ("left", "none", ()))))
        head = Head(1, 0, 0, 0, (7, 1, 0, 0, 0, 0, 0, 0))
        for row in ([shown], [copied, shown], [copied, copied, shown]):
            self.assertEqual(fewest_like(head, shape, row), (((0, 0, 8), ("flat", "none", ())),))
        shown = (left, (((0, 0, 2), ("flat", "plain", (0, 2))), ((0, 2, 2), ("left", "none", ()))))
        for row in ([shown], [copied, shown], [copied, copied, shown]):
            self.assertEqual(fewest_like(head, shape, row), (((0, 0, 2), ("flat", "plain", (0, 2))), ((0, 2, 2), ("left", "none", ()))))

    def test_levels_nearest_to_zero(self):
        # The first sample on the right is guessed to be the highest number, and is: no level is shorter than 0.
        shape = Shape(1, 4, 0, 4)
        low = Head(0, 0, 0, 0, (2, 1, 0, 0, 0, 0, 0, 0))
        row = [(low, (((0, 0, 2), ("flat", "plain", (2, 2))), ((0, 2, 2), ("flat", "plain", (99, 1)))))]
        self.assertEqual(like_prices(low, shape, row)[(1, (0, 0))], len("0" + "10" + "0" + "110"))
        # The sample is the highest number whatever is copied: any level that is great enough does.
        shape = Shape(1, 1, 0, 4)
        head = Head(1, 0, 0, 0, (7, 0, 0, 0, 0, 1, 0, 0))
        row = [(COPY, ((ROOT, ("copy", 0, (0, 0), "plain", (99,))),))]
        self.assertEqual(fewest_like(head, shape, row), ((ROOT, ("copy", 0, (0, 0), "plain", (4,))),))
        row = [(COPY, ((ROOT, ("copy", 0, (0, 0), "plain", (-99,))),))]
        self.assertEqual(fewest_like(head, shape, row), ((ROOT, ("copy", 0, (0, 0), "plain", (-4,))),))
        # Where what is copied may be clipped, the level is just that one.
        row = [(COPY, ((ROOT, ("copy", 0, (0, 0), "plain", (2,))),))]
        self.assertEqual(fewest_like(head, shape, row), ((ROOT, ("copy", 0, (0, 0), "plain", (2,))),))
        self.assertEqual(play(head, shape, fewest_like(head, shape, row), [((3,),)]), ((4,),))
        # Lifted, one number tells that all samples rise; what could be clipped is not told so.
        shape = Shape(1, 2, 0, 9)
        low = Head(0, 0, 0, 0, (1, 0, 0, 0, 0, 0, 0, 0))
        row = [(low, ((ROOT, ("flat", "plain", (4, 4))),))]
        self.assertEqual(fewest_like(low, shape, row), ((ROOT, ("flat", "lifted", (4, 0))),))
        row = [(COPY, ((ROOT, ("copy", 0, (0, 0), "lifted", (4, 0))),))]
        self.assertEqual(fewest_like(Head(1, 0, 0, 0, (7, 0, 0, 0, 0, 1, 0, 0)), shape, row), (
            (ROOT, ("copy", 0, (0, 0), "plain", (4, 4))),))
        self.assertEqual(flat(shape, 8), ((8, 8),))


if __name__ == "__main__":
    unittest.main()
