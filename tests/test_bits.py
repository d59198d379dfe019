import random
import unittest

from helpers import NOTHINGS, refuses, raises, wrong_numbers
from pricedreels.bits import (fixed_bits, folded, grade_bits, grade_length, is_bits, long_bits, long_length, read_fixed,
                              read_grade, read_long, unfolded)
from pricedreels.errors import BadAt, BadBits, BadGrade, BadMany, BadNumber, BadStream

TOLD = range(-32767, 32768)
GRADES = range(8)
WRONG_TOLD = wrong_numbers(-32767, 32767)
WRONG_BITS = [None, True, 0, 1, [], ["0", "1"], ("0",), {}, "2", "01 ", " 01", "0 1", "0a1", "a", "0\n", "-1", "\u0660"]
WRONG_GRADES = wrong_numbers(0, 7)


def plain_long(number):
    """The long word, as the document builds it."""
    b = format(plain_folded(number) + 1, "b")
    return "1" * (len(b) - 1) + "0" + b[1:]


def plain_folded(number):
    return 2 * number - 1 if number > 0 else -2 * number


def plain_grade(number, grade):
    f = plain_folded(number)
    q, rest = divmod(f, 2 ** grade)
    if q < 12:
        return "1" * q + "0" + (format(rest, "b").rjust(grade, "0") if grade else "")
    return "1" * 12 + format(f, "016b")


class Folding(unittest.TestCase):
    def test_all_numbers_both_ways(self):
        row = [0]
        for number in range(1, 32768):
            row += [number, -number]
        self.assertEqual(len(row), 65535)
        self.assertEqual([folded(number) for number in row], list(range(65535)))
        self.assertEqual([unfolded(number) for number in range(65535)], row)

    def test_wrong_numbers(self):
        refuses(self, folded, [32767], [(0, WRONG_TOLD, BadNumber)])
        refuses(self, folded, [-32767], [(0, WRONG_TOLD, BadNumber)])
        refuses(self, unfolded, [65534], [(0, wrong_numbers(0, 65534), BadNumber)])


class Bits(unittest.TestCase):
    def test_what_bits_are(self):
        for thing in ("", "0", "1", "01", "110", "0" * 20000, "1" * 20000):
            self.assertIs(is_bits(thing), True)
        for thing in WRONG_BITS + NOTHINGS:
            self.assertIs(is_bits(thing), False, thing)


class Fixed(unittest.TestCase):
    def test_all_short_words(self):
        for many in range(1, 11):
            words = [fixed_bits(number, many) for number in range(2 ** many)]
            self.assertEqual(words, [format(number, f"0{many}b") for number in range(2 ** many)])

    def test_long_words(self):
        self.assertEqual(fixed_bits(0, 16), "0" * 16)
        self.assertEqual(fixed_bits(65535, 16), "1" * 16)
        self.assertEqual(fixed_bits(5, 16), "0" * 13 + "101")
        self.assertEqual(fixed_bits(2 ** 14, 15), "1" + "0" * 14)

    def test_reads_back(self):
        rng = random.Random(1)
        for many in range(1, 17):
            for _ in range(60):
                number = rng.choice([0, 2 ** many - 1, rng.randrange(2 ** many)])
                ahead, behind = chance_bits(rng), chance_bits(rng)
                bits = ahead + fixed_bits(number, many) + behind
                self.assertEqual(read_fixed(bits, len(ahead), many), (number, len(ahead) + many))

    def test_cut_off(self):
        for many in range(1, 17):
            for at in (0, 3):
                for left in range(many):
                    raises(self, BadStream, read_fixed, ["1" * (at + left), at, many], at=at)

    def test_wrong_inputs(self):
        refuses(self, fixed_bits, [1, 1], [(1, wrong_numbers(1, 16), BadMany), (0, wrong_numbers(0, 1), BadNumber)])
        refuses(self, fixed_bits, [65535, 16],
                [(1, wrong_numbers(1, 16), BadMany), (0, wrong_numbers(0, 65535), BadNumber)])
        for many in range(1, 17):
            raises(self, BadNumber, fixed_bits, [2 ** many, many])
        refuses(self, read_fixed, ["01", 1, 1], [
            (0, WRONG_BITS, BadBits), (1, wrong_numbers(0, 2), BadAt), (2, wrong_numbers(1, 16), BadMany),
            (1, [2], BadStream, {"at": 2})])


class Long(unittest.TestCase):
    def test_examples(self):
        self.assertEqual([long_bits(number) for number in (0, 1, -1, 2)], ["0", "100", "101", "11000"])

    def test_all_words(self):
        self.assertEqual([long_bits(number) for number in TOLD], [plain_long(number) for number in TOLD])

    def test_all_are_read_back(self):
        for number in TOLD:
            word = long_bits(number)
            self.assertEqual(read_long(word, 0), (number, len(word)))

    def test_bits_ahead_and_behind(self):
        rng = random.Random(2)
        for number in list(range(-40, 41)) + [rng.choice(TOLD) for _ in range(300)] + [-32767, 32767]:
            ahead, behind, word = chance_bits(rng), chance_bits(rng), long_bits(number)
            self.assertEqual(read_long(ahead + word + behind, len(ahead)), (number, len(ahead + word)))

    def test_no_word_begins_another_one(self):
        self.assertTrue(begin_none(long_bits(number) for number in TOLD))

    def test_words_grow_away_from_zero(self):
        self.assertTrue(grow_away(long_bits))

    def test_cut_off(self):
        for number in list(range(-9, 10)) + [-32767, 32767, 1234]:
            word = long_bits(number)
            for at in (0, 5):
                for left in range(len(word)):
                    raises(self, BadStream, read_long, ["0" * at + word[:left], at], at=at)

    def test_too_many_ones(self):
        self.assertEqual(read_long("1" * 15 + "0" + "1" * 15, 0), (-32767, 31))
        raises(self, BadStream, read_long, ["1" * 16 + "0" + "1" * 40, 0], at=0)
        raises(self, BadStream, read_long, ["0" + "1" * 16 + "0" * 40, 1], at=1)
        raises(self, BadStream, read_long, ["1" * 90, 2], at=2)

    def test_wrong_inputs(self):
        refuses(self, long_bits, [0], [(0, WRONG_TOLD, BadNumber)])
        refuses(self, read_long, ["00", 1], [
            (0, WRONG_BITS, BadBits), (1, wrong_numbers(0, 2), BadAt), (1, [2], BadStream, {"at": 2})])


class Grade(unittest.TestCase):
    def test_examples(self):
        self.assertEqual(grade_bits(3, 1), "1101")
        self.assertEqual(grade_bits(-13, 0), "1" * 12 + "0000000000011010")

    def test_all_words(self):
        for grade in GRADES:
            words = [grade_bits(number, grade) for number in TOLD]
            self.assertEqual(words, [plain_grade(number, grade) for number in TOLD])
            self.assertEqual(max(len(word) for word in words), 28)
            self.assertEqual(min(len(word) for word in words), 1 + grade)

    def test_all_are_read_back(self):
        for grade in GRADES:
            for number in TOLD:
                word = plain_grade(number, grade)
                self.assertEqual(read_grade(word, 0, grade), (number, len(word)))

    def test_bits_ahead_and_behind(self):
        rng = random.Random(3)
        for grade in GRADES:
            for number in list(range(-30, 31)) + [rng.choice(TOLD) for _ in range(100)] + [-32767, 32767]:
                ahead, behind, word = chance_bits(rng), chance_bits(rng), grade_bits(number, grade)
                self.assertEqual(read_grade(ahead + word + behind, len(ahead), grade), (number, len(ahead + word)))

    def test_no_word_begins_another_one(self):
        for grade in GRADES:
            self.assertTrue(begin_none(grade_bits(number, grade) for number in TOLD))

    def test_words_grow_away_from_zero(self):
        for grade in GRADES:
            self.assertTrue(grow_away(lambda number: grade_bits(number, grade)))

    def test_cut_off(self):
        for grade in GRADES:
            for number in (0, 1, -1, 5, -6, 100, -700, 800, 32767, -32767):
                word = grade_bits(number, grade)
                for at in (0, 2):
                    for left in range(len(word)):
                        raises(self, BadStream, read_grade, ["1" * at + word[:left], at, grade], at=at)

    def test_twelve_ones(self):
        for grade in GRADES:
            least = 12 * 2 ** grade
            for at in (0, 7):
                ahead = "0" * at + "1" * 12
                for number in (0, 1, least - 2, least - 1, 65535):
                    bits = ahead + format(number, "016b") + "0000"
                    raises(self, BadStream, read_grade, [bits, at, grade], at=at)
                for number in (least, least + 1, 65533, 65534):
                    bits = ahead + format(number, "016b") + "0000"
                    self.assertEqual(read_grade(bits, at, grade), (unfolded(number), at + 28))

    def test_wrong_inputs(self):
        refuses(self, grade_bits, [0, 7], [(0, WRONG_TOLD, BadNumber), (1, WRONG_GRADES, BadGrade)])
        refuses(self, read_grade, ["00", 1, 0], [
            (0, WRONG_BITS, BadBits), (1, wrong_numbers(0, 2), BadAt), (2, WRONG_GRADES, BadGrade),
            (1, [2], BadStream, {"at": 2})])


class Lengths(unittest.TestCase):
    def test_of_words(self):
        numbers = list(range(-1600, 1601)) + [-32767, -32766, 32766, 32767]
        self.assertEqual([long_length(number) for number in numbers], [len(long_bits(number)) for number in numbers])
        for grade in GRADES:
            self.assertEqual([grade_length(number, grade) for number in numbers],
                             [len(grade_bits(number, grade)) for number in numbers])


def chance_bits(rng):
    return "".join(rng.choice("01") for _ in range(rng.randrange(30)))


def begin_none(words):
    """Whether no word is the beginning of another one: in order such words would be neighbours."""
    row = sorted(words)
    return not any(second.startswith(first) for first, second in zip(row, row[1:]))


def grow_away(word_of):
    """Whether words do not become shorter as numbers go away from 0, on each side."""
    for side in (range(1, 32768), range(-1, -32768, -1)):
        lengths = [len(word_of(number)) for number in side]
        if lengths != sorted(lengths):
            return False
    return True


if __name__ == "__main__":
    unittest.main()
