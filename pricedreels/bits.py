"""Numbers in bits: words of a fixed length, long words and words of a grade."""

from pricedreels.checks import is_within
from pricedreels.errors import BadAt, BadBits, BadGrade, BadMany, BadNumber, BadStream

MOST_TOLD = 32767
MOST_FOLDED = 65534
ONES_OF_LONG = 15
ONES_OF_GRADE = 12
BITS_BEHIND_ONES = 16


def folded(number):
    """The number from 0 on for which a number that can be told stands."""
    check_told(number)
    return fold(number)


def unfolded(number):
    """The number that is folded to this one."""
    if not is_within(number, 0, MOST_FOLDED):
        raise BadNumber("a folded number is a number from 0 to 65534")
    return unfold(number)


def is_bits(thing):
    """Whether any value is bits."""
    return isinstance(thing, str) and thing.strip("01") == ""


def fixed_bits(number, many):
    """The number in many bits."""
    check_many(many)
    if not is_within(number, 0, (1 << many) - 1):
        raise BadNumber("the number does not fit into so many bits")
    return in_bits(number, many)


def long_bits(number):
    """The long word of a number that can be told."""
    check_told(number)
    word = f"{fold(number) + 1:b}"
    return "1" * (len(word) - 1) + "0" + word[1:]


def grade_bits(number, grade):
    """The word of this grade of a number that can be told."""
    check_told(number)
    check_grade(grade)
    fold_of = fold(number)
    ones = fold_of >> grade
    if ones >= ONES_OF_GRADE:
        return "1" * ONES_OF_GRADE + in_bits(fold_of, BITS_BEHIND_ONES)
    return "1" * ones + "0" + in_bits(fold_of - (ones << grade), grade)


def read_fixed(bits, at, many):
    """The number that stands in many bits from at on, and the index behind them."""
    check_stream(bits, at)
    check_many(many)
    return take_fixed(bits, at, many)


def read_long(bits, at):
    """The number whose long word begins at at, and the index behind the word."""
    check_stream(bits, at)
    return take_long(bits, at)


def read_grade(bits, at, grade):
    """The number whose word of this grade begins at at, and the index behind the word."""
    check_stream(bits, at)
    check_grade(grade)
    return take_grade(bits, at, grade)


def check_told(number):
    if not is_told(number):
        raise BadNumber("numbers from -32767 to 32767 can be told")


def check_many(many):
    if not is_within(many, 1, 16):
        raise BadMany("a number of bits is a number from 1 to 16")


def check_grade(grade):
    if not is_within(grade, 0, 7):
        raise BadGrade("a grade is a number from 0 to 7")


def check_stream(bits, at):
    if not is_bits(bits):
        raise BadBits("bits are a string of 0 and 1")
    if not is_within(at, 0, len(bits)):
        raise BadAt("an index is a number from 0 to the length of the bits")


def is_told(thing):
    """Whether any value is a number that can be told."""
    return is_within(thing, -MOST_TOLD, MOST_TOLD)


def fold(number):
    return 2 * number - 1 if number > 0 else -2 * number


def unfold(number):
    return (number + 1) // 2 if number & 1 else -(number // 2)


def in_bits(number, many):
    """The number in many bits, in none if many is 0."""
    return f"{number:b}".zfill(many) if many else ""


def long_length(number):
    """How many bits the long word has, for a number that was looked at."""
    return 2 * (fold(number) + 1).bit_length() - 1


def grade_length(number, grade):
    """How many bits the word of this grade has, for a number that was looked at."""
    ones = fold(number) >> grade
    return ones + 1 + grade if ones < ONES_OF_GRADE else ONES_OF_GRADE + BITS_BEHIND_ONES


def take_fixed(bits, at, many):
    """As read_fixed, for bits that were looked at; many may be 0."""
    end = at + many
    if end > len(bits):
        raise BadStream(at)
    # The zero in front changes no number, and makes one of no bits at all.
    return int("0" + bits[at:end], 2), end


def take_long(bits, at):
    """As read_long, for bits that were looked at."""
    zero = bits.find("0", at, at + ONES_OF_LONG + 1)
    if zero < 0 or zero + 1 + zero - at > len(bits):
        raise BadStream(at)
    rest, end = take_fixed(bits, zero + 1, zero - at)
    return unfold((1 << (zero - at)) + rest - 1), end


def take_grade(bits, at, grade):
    """As read_grade, for bits that were looked at."""
    zero = bits.find("0", at, at + ONES_OF_GRADE)
    width = grade if zero >= 0 else BITS_BEHIND_ONES
    start = zero + 1 if zero >= 0 else at + ONES_OF_GRADE
    if start + width > len(bits):
        raise BadStream(at)
    number, end = take_fixed(bits, start, width)
    if zero >= 0:
        return unfold(((zero - at) << grade) + number), end
    if not ONES_OF_GRADE << grade <= number <= MOST_FOLDED:
        raise BadStream(at)
    return unfold(number), end
