"""Tapes: bits that are read item by item."""

from pricedreels.bits import BITS_BEHIND_ONES, ONES_OF_GRADE, take_grade
from pricedreels.errors import BadStream
from pricedreels.heads import BITS_OF_KIND, BITS_OF_PART, take_head

# A head that stands wherever one does, and leaves each part the most room.
ROOMY_HEAD = "00" + "000" * 3 + "111" + "000" * 7


class Tape:
    """Bits, and the index at which the next item begins.

    What was asked for last is kept: where it is refused, it tells what would
    have to stand at the index.
    """

    def __init__(self, bits, at):
        self.bits = bits
        self.at = at
        self.asked = "word"
        self.told = {}

    def pick(self, words):
        """That of the things for which words stand whose word begins here."""
        self.asked, self.told = "word", words
        for thing, word in words.items():
            if self.bits[self.at:self.at + len(word)] == word:
                self.at += len(word)
                return thing
        raise BadStream(self.at)

    def level(self, grade):
        """The number whose word of this grade begins here."""
        self.asked, self.told = "level", grade
        number, self.at = take_grade(self.bits, self.at, grade)
        return number

    def whole_head(self, most):
        """The head, of a kind up to most, whose bits begin here."""
        self.asked, self.told = "head", most
        head, end = take_head(self.bits, self.at)
        if head.kind > most:
            raise BadStream(self.at)
        self.at = end
        return head

    def is_begun(self):
        """Whether the item that was refused is none because the bits end, and some bits behind make it one."""
        rest = self.bits[self.at:]
        if self.asked == "level":
            return is_level_begun(rest, self.told)
        if self.asked == "head":
            return is_head_begun(rest, self.told)
        return any([word.startswith(rest) for word in self.told.values()])


def is_level_begun(rest, grade):
    """Whether the rest, which does not begin with a word of the grade, is the beginning of one."""
    if not rest.startswith("1" * ONES_OF_GRADE):
        return True
    begun = rest[ONES_OF_GRADE:]
    missing = BITS_BEHIND_ONES - len(begun)
    # Bits that lack some can always go on to a number that is not too great.
    return missing > 0 and int(begun + "1" * missing, 2) >= ONES_OF_GRADE << grade


def is_head_begun(rest, most):
    """Whether the rest, which does not begin with a head of a kind up to most, is the beginning of one."""
    # Of a part that is begun the least number has the most room, or else the
    # greatest one: the longest word leaves more room than any other word.
    missing = (BITS_OF_KIND - len(rest)) % BITS_OF_PART
    for sign in ("0", "1"):
        begun = rest + sign * missing
        tape = Tape(begun + ROOMY_HEAD[len(begun):], 0)
        try:
            tape.whole_head(most)
            return True
        except BadStream:
            continue
    return False
