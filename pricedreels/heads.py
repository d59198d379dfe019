"""Heads: how a picture is told, and the words of the modes."""

from pricedreels.bits import check_stream, in_bits, take_fixed
from pricedreels.checks import is_tuple_of, is_within
from pricedreels.errors import BadBook, BadHead, BadStream
from pricedreels.guesses import MODES

LONGEST_WORD = 7
BITS_OF_KIND = 2
BITS_OF_PART = 3
BITS_OF_HEAD = 35


class Head:
    """The kind, the loss, the grade, the reach and the book with which a picture is told."""

    def __init__(self, kind, loss, grade, reach, book):
        if not is_within(kind, 0, 2):
            raise BadHead("kind")
        if not is_within(loss, 0, 7):
            raise BadHead("loss")
        if not is_within(grade, 0, 7):
            raise BadHead("grade")
        if not is_within(reach, 0, 4):
            raise BadHead("reach")
        if not is_book(kind, book):
            raise BadHead("book")
        self.kind = kind
        self.loss = loss
        self.grade = grade
        self.reach = reach
        self.book = book

    def __eq__(self, other):
        return (isinstance(other, Head) and self.kind == other.kind and self.loss == other.loss
                and self.grade == other.grade and self.reach == other.reach and self.book == other.book)


def words_of(book):
    """The dict from the modes of the book, in their order, to their words."""
    # The kind 2 has all modes, so a book of any kind is one of this kind.
    if not is_book(2, book):
        raise BadBook("a book is a tuple of eight lengths of words that fit together")
    words = {}
    code = 0
    reached = 0
    for length, number in sorted([(many, at) for at, many in enumerate(book) if many > 0]):
        code = code << (length - reached)
        words[number] = in_bits(code, length)
        code += 1
        reached = length
    return {MODES[at]: words[at] for at in sorted(list(words))}


def head_bits(head):
    """The 35 bits of the head."""
    check_head(head)
    parts = [head.loss, head.grade, head.reach] + list(head.book)
    return in_bits(head.kind, BITS_OF_KIND) + "".join([in_bits(part, BITS_OF_PART) for part in parts])


def read_head(bits, at):
    """The head whose bits begin at at, and the index behind them."""
    check_stream(bits, at)
    return take_head(bits, at)


def check_head(head):
    if not isinstance(head, Head):
        raise BadHead(None)


def is_book(kind, thing):
    """Whether any value is a book for the kind."""
    if not is_tuple_of(thing, len(MODES)) or not all([is_within(part, 0, LONGEST_WORD) for part in thing]):
        return False
    flat, _, _, _, _, copied, both, still = thing
    if flat == 0 or (kind < 1 and copied + still > 0) or (kind < 2 and both > 0):
        return False
    return sum([1 << (LONGEST_WORD - length) for length in thing if length > 0]) <= 1 << LONGEST_WORD


def take_head(bits, at):
    """As read_head, for bits that were looked at."""
    end = at + BITS_OF_HEAD
    if end > len(bits):
        raise BadStream(at)
    kind, start = take_fixed(bits, at, BITS_OF_KIND)
    loss, grade, reach, *book = [take_fixed(bits, k, BITS_OF_PART)[0] for k in range(start, end, BITS_OF_PART)]
    try:
        return Head(kind, loss, grade, reach, tuple(book)), end
    except BadHead:
        raise BadStream(at) from None
