"""Judgements of values that several modules share."""


def is_number(thing):
    """Whether any value is a number; a bool is an int too, and yet is none."""
    return isinstance(thing, int) and not isinstance(thing, bool)


def is_within(thing, low, high):
    """Whether any value is a number from low to high."""
    return is_number(thing) and low <= thing <= high


def is_tuple_of(thing, many):
    """Whether any value is a tuple of so many items."""
    return isinstance(thing, tuple) and len(thing) == many


def is_row(thing):
    """Whether any value is a tuple of 1 to 16 numbers."""
    return isinstance(thing, tuple) and 1 <= len(thing) <= 16 and all([is_number(part) for part in thing])


def is_rows(thing):
    """Whether any value is a tuple of 1 to 16 rows of numbers, all of the same length."""
    if not isinstance(thing, tuple) or not 1 <= len(thing) <= 16:
        return False
    for row in thing:
        if not is_row(row) or len(row) != len(thing[0]):
            return False
    return True


def are_between(rows, low, high):
    """Whether all numbers of the rows are from low to high."""
    return low <= min([min(row) for row in rows]) and max([max(row) for row in rows]) <= high


def clipped(number, low, high):
    """The nearest number from low to high."""
    return max(low, min(number, high))


def is_plain(thing):
    """Whether any value is a number, or a tuple of such and of such tuples."""
    if isinstance(thing, tuple):
        return all([is_plain(part) for part in thing])
    return is_number(thing)


def has_keys(thing, keys):
    """Whether any value is a dict with just these keys, tuples of numbers and of such tuples."""
    # A key with True in the place of 1 is found in a dict, too, and is another one.
    return (isinstance(thing, dict) and len(thing) == len(keys) and all([key in thing for key in keys])
            and all([is_plain(key) for key in thing]))


def is_prices_for(thing, keys):
    """Whether any value is a dict from just these keys to numbers."""
    return has_keys(thing, keys) and all([is_number(number) for number in thing.values()])
