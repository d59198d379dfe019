"""Choices for blocks: what they guess, and how many bits they cost."""

from pricedreels.bits import grade_length, long_length
from pricedreels.copies import moved, vectors_of
from pricedreels.grids import spots_of
from pricedreels.guesses import guesses_of
from pricedreels.tellings import WAYS, modes_for, vector_of

BEYOND = ("copy", "both", "still")


def moved_guesses(head, shape, references):
    """What "copy" and "both" guess at all spots, in rows, by the beginnings of their choices, in their order."""
    vectors = vectors_of(head.reach)
    found = {("copy", at, vector): moved(shape, vector, plane)
             for at, plane in enumerate(references) for vector in vectors}
    if head.kind == 2:
        for dy, dx in vectors:
            found[("both", (dy, dx))] = halved(found[("copy", 0, (dy, dx))], found[("copy", 1, (-dy, -dx))])
    return found


def halved(rows, others):
    """The floor of half the sum, number by number."""
    return [[(one + other) // 2 for one, other in zip(row, line)] for row, line in zip(rows, others)]


def samples_at(shape, block, rows):
    """The samples at the block's spots."""
    return [rows[y][x] for y, x in spots_of(shape, block)]


def guesses_at(head, shape, block, rows, table):
    """The pairs of the beginning of a choice, all but "still", and its guesses for the block, in their order.

    rows are what is shown ahead of the block, table is of moved_guesses.
    """
    modes = modes_for(head, block)
    found = [((mode,), guesses_of(shape, block, mode, rows)) for mode in modes if mode not in BEYOND]
    for start, guesses in table.items():
        if start[0] in modes:
            found.append((start, samples_at(shape, block, guesses)))
    return found


def still_guesses(head, shape, block, last, table):
    """The guesses of "still" for the block, None if it cannot be told so."""
    if "still" not in modes_for(head, block):
        return None
    return samples_at(shape, block, table[("copy", 0, last)])


def vector_cost(head, vector, last):
    """The bits with which a vector, or None, is told behind the last one."""
    if vector is None or head.reach == 0:
        return 0
    return long_length(vector[0] - last[0]) + long_length(vector[1] - last[1])


def fixed_cost(head, words, choice):
    """The bits of a choice but for those of its vector."""
    mode = choice[0]
    cost = len(words[mode])
    if mode == "still":
        return cost
    if mode == "copy" and head.kind == 2:
        cost += 1
    return cost + len(WAYS[choice[-2]]) + sum([grade_length(level, head.grade) for level in choice[-1]])


def choice_cost(head, words, choice, last):
    """The bits of a choice, last being the last vector."""
    return fixed_cost(head, words, choice) + vector_cost(head, vector_of(choice), last)
