import itertools
import random
import unittest

from helpers import BOOK, NOTHINGS, SHAPE, raises, refuses, wrong_numbers
from pricedreels.errors import BadAt, BadBits, BadBook, BadHead, BadStream
from pricedreels.heads import Head, head_bits, read_head, words_of

MODES = ["flat", "left", "up", "middle", "mean", "copy", "both", "still"]
NOT_BOOKS = NOTHINGS + [
    0, SHAPE, list(BOOK), BOOK[:-1], BOOK + (0,), (0, 1, 2, 3, 0, 0, 0, 0), (0,) * 8, (8, 0, 0, 0, 0, 0, 0, 0),
    (-1, 0, 0, 0, 0, 0, 0, 0), (1, -1, 0, 0, 0, 0, 0, 0), (1, 0, 0, 0, 0, 0, 0, 8), (True, 0, 0, 0, 0, 0, 0, 0),
    (1, False, 0, 0, 0, 0, 0, 0), (1, 0, 0, 0, 0, 0, 0, None), ("1", 0, 0, 0, 0, 0, 0, 0), (1, 0, 0, 0, 0, 0, 0, "0"),
    (1, 1, 7, 0, 0, 0, 0, 0), (1,) * 8, (2, 2, 2, 2, 7, 0, 0, 0), "11100000", (1, 2, 3, 4, 5, 6, 6, 7),
    {1: 1, 2: 2, 3: 3}, ((1,), 0, 0, 0, 0, 0, 0, 0), (1, 0, 0, 0, 0, 0, 0, [0]), (2, 1, 2, 7, 0, 0, 0, 0)]
FULL = (1, 2, 3, 4, 5, 6, 7, 7)


def is_good(kind, book):
    """Whether eight numbers are a book for the kind, plainly."""
    if not all(0 <= length <= 7 for length in book) or book[0] == 0:
        return False
    if kind == 0 and (book[5] or book[7]) or kind < 2 and book[6]:
        return False
    return sum(2 ** (7 - length) for length in book if length) <= 128


def plain_words(book):
    order = sorted((length, at) for at, length in enumerate(book) if length)
    words, last = {}, None
    for length, at in order:
        last = "0" * length if last is None else format(int(last, 2) + 1, f"0{len(last)}b").ljust(length, "0")
        words[at] = last
    return [(MODES[at], words[at]) for at in sorted(words)]


def chance_book(rng, kind):
    while True:
        book = tuple(rng.choice([0, 0, 1, 2, 3, 4, 5, 6, 7]) for _ in range(8))
        if is_good(kind, book):
            return book


def chance_head(rng):
    kind = rng.randrange(3)
    return Head(kind, rng.randrange(8), rng.randrange(8), rng.randrange(5), chance_book(rng, kind))


class Heads(unittest.TestCase):
    def test_attributes(self):
        for parts in [(0, 0, 0, 0, BOOK), (1, 7, 0, 4, (1, 0, 0, 0, 0, 2, 0, 2)), (2, 3, 7, 1, FULL)]:
            head = Head(*parts)
            self.assertEqual((head.kind, head.loss, head.grade, head.reach, head.book), parts)
            named = Head(book=parts[4], reach=parts[3], grade=parts[2], loss=parts[1], kind=parts[0])
            self.assertEqual(named, head)

    def test_equality(self):
        head = Head(1, 2, 3, 4, BOOK)
        self.assertTrue(head == Head(1, 2, 3, 4, (1, 2, 3, 4, 5, 0, 0, 0)))
        self.assertFalse(head != Head(1, 2, 3, 4, BOOK))
        for other in [Head(0, 2, 3, 4, BOOK), Head(2, 2, 3, 4, BOOK), Head(1, 3, 3, 4, BOOK), Head(1, 2, 2, 4, BOOK),
                      Head(1, 2, 3, 0, BOOK), Head(1, 2, 3, 4, (1, 2, 3, 4, 6, 0, 0, 0)),
                      Head(1, 2, 3, 4, (1, 2, 3, 4, 5, 0, 0, 7))]:
            self.assertFalse(head == other)
            self.assertTrue(head != other)
        for thing in NOTHINGS + [SHAPE, (1, 2, 3, 4, BOOK), 1]:
            if not isinstance(thing, Head):
                self.assertFalse(head == thing)
                self.assertFalse(thing == head)
                self.assertTrue(head != thing)

    def test_wrong_parts(self):
        for right in ([0, 0, 0, 0, BOOK], [2, 7, 7, 4, FULL]):
            refuses(self, Head, right, [
                (0, wrong_numbers(0, 2), BadHead, {"part": "kind"}),
                (1, wrong_numbers(0, 7), BadHead, {"part": "loss"}),
                (2, wrong_numbers(0, 7), BadHead, {"part": "grade"}),
                (3, wrong_numbers(0, 4), BadHead, {"part": "reach"}),
                (4, NOT_BOOKS, BadHead, {"part": "book"})])

    def test_books_of_each_kind(self):
        for mode, least in ((5, 1), (7, 1), (6, 2)):
            book = tuple(1 if at == 0 else 7 if at == mode else 0 for at in range(8))
            for kind in range(3):
                if kind >= least:
                    self.assertEqual(Head(kind, 0, 0, 0, book).book, book)
                else:
                    raises(self, BadHead, Head, [kind, 0, 0, 0, book], part="book")

    def test_how_many_words_fit(self):
        rng = random.Random(22)
        books = [tuple(rng.choice([0, 1, 2, 3, 3, 4, 7]) for _ in range(8)) for _ in range(2000)]
        books += [(1, 1, 0, 0, 0, 0, 0, 0), (3,) * 8, FULL, (1,) + (0,) * 7, (7,) * 8, (1, 2, 2, 7, 0, 0, 0, 0),
                  (2, 2, 2, 3, 3, 0, 0, 0), (2, 2, 2, 3, 3, 7, 0, 0)]
        for book in books:
            for kind in range(3):
                if is_good(kind, book):
                    self.assertEqual(Head(kind, 0, 0, 0, book).book, book)
                else:
                    raises(self, BadHead, Head, [kind, 0, 0, 0, book], part="book")


class Words(unittest.TestCase):
    def test_by_hand(self):
        self.assertEqual(words_of((1, 0, 0, 0, 0, 0, 0, 0)), {"flat": "0"})
        self.assertEqual(words_of((7, 0, 0, 0, 0, 0, 0, 0)), {"flat": "0000000"})
        self.assertEqual(words_of((1, 0, 0, 0, 0, 0, 0, 1)), {"flat": "0", "still": "1"})
        self.assertEqual(list(words_of((3, 1, 0, 0, 0, 2, 0, 3)).items()),
                         [("flat", "110"), ("left", "0"), ("copy", "10"), ("still", "111")])
        self.assertEqual(list(words_of((3,) * 8).items()),
                         list(zip(MODES, ["000", "001", "010", "011", "100", "101", "110", "111"])))
        self.assertEqual(list(words_of((7, 6, 2, 0, 0, 2, 4, 0)).items()),
                         [("flat", "1001010"), ("left", "100100"), ("up", "00"), ("copy", "01"), ("both", "1000")])

    def test_by_the_document(self):
        rng = random.Random(23)
        for book in [chance_book(rng, 2) for _ in range(1500)] + [FULL, FULL[::-1], BOOK, (3,) * 8]:
            words = words_of(book)
            self.assertEqual(list(words.items()), plain_words(book))
            for one, other in itertools.permutations(words.values(), 2):
                self.assertFalse(other.startswith(one))

    def test_dict_is_new(self):
        first = words_of(FULL)
        first.clear()
        self.assertEqual(len(words_of(FULL)), 8)

    def test_wrong_inputs(self):
        refuses(self, words_of, [FULL], [(0, NOT_BOOKS + [Head(0, 0, 0, 0, BOOK)], BadBook)])


class HeadBits(unittest.TestCase):
    def test_by_hand(self):
        head = Head(2, 1, 4, 3, (1, 2, 3, 4, 5, 6, 7, 7))
        self.assertEqual(head_bits(head), "10" + "001" + "100" + "011" + "001010011100101110111111")
        self.assertEqual(head_bits(Head(0, 0, 0, 0, (1,) + (0,) * 7)), "0" * 13 + "1" + "0" * 21)

    def test_reads_back(self):
        rng = random.Random(24)
        for _ in range(500):
            head = chance_head(rng)
            bits = head_bits(head)
            self.assertEqual(len(bits), 35)
            ahead, behind = ["".join(rng.choice("01") for _ in range(rng.randrange(20))) for _ in range(2)]
            found = read_head(ahead + bits + behind, len(ahead))
            self.assertEqual(found, (head, len(ahead) + 35))
            self.assertIsInstance(found, tuple)
            self.assertEqual(found[0].book, head.book)

    def test_cut_off(self):
        bits = head_bits(Head(1, 2, 3, 4, BOOK))
        for at in (0, 4):
            for left in range(35):
                raises(self, BadStream, read_head, ["0" * at + bits[:left], at], at=at)

    def test_all_parts_that_are_none(self):
        rng = random.Random(25)
        for _ in range(4000):
            parts = [rng.randrange(4), rng.randrange(8), rng.randrange(8), rng.randrange(8)]
            book = tuple(rng.choice([0, 0, 1, 2, 3, 4, 5, 6, 7]) for _ in range(8))
            bits = format(parts[0], "02b") + "".join(format(part, "03b") for part in parts[1:] + list(book))
            if parts[0] < 3 and parts[3] < 5 and is_good(parts[0], book):
                self.assertEqual(read_head("01" + bits, 2), (Head(*parts, book), 37))
            else:
                raises(self, BadStream, read_head, ["01" + bits, 2], at=2)
        for bits in ("11" + "0" * 9 + "001" + "0" * 21, "00" + "0" * 6 + "101" + "001" + "0" * 21, "0" * 35):
            raises(self, BadStream, read_head, [bits + "0000", 0], at=0)

    def test_wrong_inputs(self):
        no_heads = [thing for thing in NOTHINGS if not isinstance(thing, Head)] + [
            0, SHAPE, (0, 0, 0, 0, BOOK), head_bits(Head(0, 0, 0, 0, BOOK))]
        refuses(self, head_bits, [Head(0, 0, 0, 0, BOOK)], [(0, no_heads, BadHead, {"part": None})])
        bits = head_bits(Head(0, 0, 0, 0, BOOK))
        refuses(self, read_head, [bits, 0], [
            (0, [None, True, 0, [], ["0"], {}, "2", bits + " ", SHAPE], BadBits),
            (1, wrong_numbers(0, 35), BadAt), (1, [1, 34, 35], BadStream)])
        raises(self, BadStream, read_head, [bits, 35], at=35)


if __name__ == "__main__":
    unittest.main()
