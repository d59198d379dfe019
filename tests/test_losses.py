import random
import unittest

from helpers import SHAPE, refuses, wrong_numbers, wrong_shapes
from pricedreels.bits import grade_bits
from pricedreels.errors import BadGuess, BadLoss, BadNumber, BadShape
from pricedreels.grids import Shape
from pricedreels.losses import level_of, levels_that, rebuilt

LOSSES = range(8)
NO_SHAPE = (0, wrong_shapes(), BadShape, {"part": None})
WRONG_TOLD = wrong_numbers(-32767, 32767)
WRONG_LOSSES = wrong_numbers(0, 7)


def plain_rebuilt(shape, guess, level, loss):
    sample = guess + level * (2 * loss + 1)
    return shape.low if sample < shape.low else shape.high if sample > shape.high else sample


def tried_levels(shape, guess, loss, most=32767):
    """The least and the greatest level for each sample that is rebuilt from one, by a plain trial."""
    found = {}
    for level in range(-most, most + 1):
        sample = plain_rebuilt(shape, guess, level, loss)
        found[sample] = (found.get(sample, (level, level))[0], level)
    return found


class Levels(unittest.TestCase):
    def test_by_hand(self):
        self.assertEqual([level_of(rest, 0) for rest in range(-3, 4)], [-3, -2, -1, 0, 1, 2, 3])
        self.assertEqual([level_of(rest, 1) for rest in range(-6, 7)], [-2, -2, -1, -1, -1, 0, 0, 0, 1, 1, 1, 2, 2])
        self.assertEqual([level_of(rest, 7) for rest in (-23, -22, -8, -7, 0, 7, 8, 22, 23)],
                         [-2, -1, -1, 0, 0, 0, 1, 1, 2])
        self.assertEqual([level_of(32767, loss) for loss in (0, 1, 7)], [32767, 10922, 2184])
        self.assertEqual([level_of(-32767, loss) for loss in (0, 1, 7)], [-32767, -10922, -2184])

    def test_all_losses(self):
        for loss in LOSSES:
            step = 2 * loss + 1
            for rest in list(range(-1100, 1101)) + [-32767, -32766, 32766, 32767]:
                level = level_of(rest, loss)
                self.assertLessEqual(abs(rest - level * step), loss)
                self.assertEqual(level_of(-rest, loss), -level)

    def test_wrong_inputs(self):
        refuses(self, level_of, [0, 0], [(0, WRONG_TOLD, BadNumber), (1, WRONG_LOSSES, BadLoss)])
        refuses(self, level_of, [-32767, 7], [(0, WRONG_TOLD, BadNumber), (1, WRONG_LOSSES, BadLoss)])


class Rebuilding(unittest.TestCase):
    def test_by_hand(self):
        shape = Shape(1, 1, -5, 9)
        self.assertEqual(rebuilt(shape, 0, 1, 0), 1)
        self.assertEqual(rebuilt(shape, 0, 1, 2), 5)
        self.assertEqual(rebuilt(shape, 0, 2, 2), 9)
        self.assertEqual(rebuilt(shape, 4, -2, 2), -5)
        self.assertEqual(rebuilt(shape, 4, -1, 3), -3)
        self.assertEqual(rebuilt(shape, 9, 32767, 7), 9)
        self.assertEqual(rebuilt(shape, 9, -32767, 7), -5)

    def test_differs_by_at_most_the_loss(self):
        for low, high in [(0, 0), (-4, 7), (-512, -490), (490, 511)]:
            shape = Shape(2, 2, low, high)
            for loss in LOSSES:
                for guess in range(low, high + 1):
                    for sample in range(low, high + 1):
                        level = level_of(sample - guess, loss)
                        found = rebuilt(shape, guess, level, loss)
                        self.assertEqual(found, plain_rebuilt(shape, guess, level, loss))
                        self.assertLessEqual(abs(found - sample), loss)

    def test_never_falls(self):
        shape = Shape(2, 2, -40, 51)
        for loss in LOSSES:
            for level in list(range(-12, 13)) + [-32767, 32767]:
                row = [rebuilt(shape, guess, level, loss) for guess in range(-40, 52)]
                self.assertEqual(row, sorted(row))
                self.assertEqual(row, [plain_rebuilt(shape, guess, level, loss) for guess in range(-40, 52)])

    def test_wrong_inputs(self):
        refuses(self, rebuilt, [SHAPE, 0, 0, 0], [
            NO_SHAPE, (1, wrong_numbers(0, 9), BadGuess), (2, WRONG_TOLD, BadNumber), (3, WRONG_LOSSES, BadLoss)])
        refuses(self, rebuilt, [SHAPE, 9, -32767, 7], [
            NO_SHAPE, (1, wrong_numbers(0, 9), BadGuess), (2, WRONG_TOLD, BadNumber), (3, WRONG_LOSSES, BadLoss)])


class LevelsThat(unittest.TestCase):
    def test_by_hand(self):
        shape = Shape(1, 1, 0, 9)
        self.assertEqual(levels_that(shape, 4, 6, 0), (2, 2))
        self.assertEqual(levels_that(shape, 4, 1, 1), (-1, -1))
        self.assertIsNone(levels_that(shape, 4, 6, 1))
        self.assertEqual(levels_that(shape, 4, 9, 0), (5, 32767))
        self.assertEqual(levels_that(shape, 4, 9, 1), (2, 32767))
        self.assertEqual(levels_that(shape, 4, 0, 0), (-32767, -4))
        self.assertEqual(levels_that(shape, 4, 0, 1), (-32767, -2))
        self.assertEqual(levels_that(shape, 0, 0, 3), (-32767, 0))
        self.assertEqual(levels_that(shape, 9, 9, 3), (0, 32767))
        self.assertEqual(levels_that(Shape(1, 1, 5, 5), 5, 5, 2), (-32767, 32767))

    def test_a_trial_of_all_levels(self):
        for low, high, guesses in [(3, 3, [3]), (-1, 2, [-1, 0, 2]), (-512, 511, [-512, 100])]:
            shape = Shape(1, 1, low, high)
            for loss in (0, 1, 7) if high > 500 else LOSSES:
                for guess in guesses:
                    found = tried_levels(shape, guess, loss)
                    for sample in range(low, high + 1):
                        self.assertEqual(levels_that(shape, guess, sample, loss), found.get(sample))

    def test_a_trial_of_small_levels(self):
        for low, high in [(-9, 12), (0, 30), (-512, -500), (480, 511)]:
            shape = Shape(1, 1, low, high)
            for loss in LOSSES:
                for guess in range(low, high + 1):
                    found = tried_levels(shape, guess, loss, 40)
                    for sample in range(low, high + 1):
                        span = found.get(sample)
                        told = levels_that(shape, guess, sample, loss)
                        if span is not None:
                            span = tuple(level // 40 * 32767 if abs(level) == 40 else level for level in span)
                            self.assertIsInstance(told, tuple)
                        self.assertEqual(told, span)

    def test_the_one_nearest_to_zero(self):
        rng = random.Random(14)
        shape = Shape(1, 1, -60, 70)
        for _ in range(400):
            guess, sample, loss = rng.randint(-60, 70), rng.choice([-60, 70, rng.randint(-60, 70)]), rng.randrange(8)
            span = levels_that(shape, guess, sample, loss)
            if span is None:
                continue
            least, greatest = span
            nearest = least if least > 0 else greatest if greatest < 0 else 0
            if loss == 0:
                self.assertEqual(nearest, sample - guess)
            levels = [level for level in (nearest - 5, nearest - 1, nearest + 1, nearest + 9, least, greatest)
                      if least <= level <= greatest and level * nearest >= 0 and level != 0]
            for grade in range(8):
                for level in levels:
                    self.assertLessEqual(len(grade_bits(nearest, grade)), len(grade_bits(level, grade)))

    def test_wrong_inputs(self):
        for right in ([SHAPE, 0, 9, 7], [SHAPE, 9, 0, 0]):
            refuses(self, levels_that, right, [
                NO_SHAPE, (1, wrong_numbers(0, 9), BadGuess), (2, wrong_numbers(0, 9), BadNumber),
                (3, WRONG_LOSSES, BadLoss)])


if __name__ == "__main__":
    unittest.main()
