"""Levels: rests that are told with a loss, in steps."""

from pricedreels.bits import MOST_TOLD, check_told
from pricedreels.checks import clipped, is_within
from pricedreels.errors import BadGuess, BadLoss, BadNumber
from pricedreels.grids import check_shape


def level_of(rest, loss):
    """The level of a rest that can be told."""
    check_told(rest)
    check_loss(loss)
    return level_for(rest, loss)


def rebuilt(shape, guess, level, loss):
    """The sample that comes of a guess and a level."""
    check_shape(shape)
    check_guess(shape, guess)
    check_told(level)
    check_loss(loss)
    return clipped(guess + level * step_of(loss), shape.low, shape.high)


def levels_that(shape, guess, sample, loss):
    """The least and the greatest level from which the sample is rebuilt, None if there is none."""
    check_shape(shape)
    check_guess(shape, guess)
    if not is_within(sample, shape.low, shape.high):
        raise BadNumber("a sample is a number from low to high")
    check_loss(loss)
    step = step_of(loss)
    greatest = (sample - guess) // step
    least = -((guess - sample) // step)
    # At an end of low and high all that lies beyond it is clipped to it.
    if sample == shape.low:
        least = -MOST_TOLD
    if sample == shape.high:
        greatest = MOST_TOLD
    return (least, greatest) if least <= greatest else None


def check_loss(loss):
    if not is_within(loss, 0, 7):
        raise BadLoss("a loss is a number from 0 to 7")


def check_guess(shape, guess):
    if not is_within(guess, shape.low, shape.high):
        raise BadGuess("a guess is a number from low to high")


def step_of(loss):
    return 2 * loss + 1


def level_for(rest, loss):
    """As level_of, for all numbers."""
    level = (abs(rest) + loss) // step_of(loss)
    return level if rest >= 0 else -level
