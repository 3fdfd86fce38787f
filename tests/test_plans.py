import random
import unittest

from oncebuilt import plans
from oncebuilt.errors import BadNumber, OnceError
from oncebuilt.plans import block_sizes, pieces, total_built
from tests.helpers import Untouchable

LIMIT = 10 ** 30
WRONG = [
    -1, -2, -LIMIT, LIMIT + 1, LIMIT * 2, 10 ** 31, 10 ** 5000, -10 ** 5000, True, False, None, 1.0, 0.0,
    float("nan"), float("inf"), 2j, "", "1", b"1", [], [1], (), (1,), {}, {1}, object(), int, Untouchable(),
]
GREAT = [LIMIT, LIMIT - 1, LIMIT // 2, 2 ** 99, 2 ** 99 - 1, 2 ** 99 + 1, 3 ** 62, 2 ** 64, 2 ** 63 - 1, 2 ** 53 + 1]


def is_power(size):
    return size > 0 and size & (size - 1) == 0


def slow_exponent(number):
    times = 0
    while number % 2 == 0:
        number //= 2
        times += 1
    return times


def slow_total(many):
    """total_built by its even and odd terms: of the even k, half has an exponent that is less by one."""
    if many == 0:
        return 0
    return (many + 1) // 2 + 2 * slow_total(many // 2)


def fewest_pieces(limit):
    """For all begin <= end <= limit, the least number of pieces, tried in every way."""
    fewest = {}
    for end in range(limit + 1):
        fewest[end, end] = 0
        for begin in range(end - 1, -1, -1):
            counts = []
            size = 1
            while begin + size <= end:
                if begin % size == 0:
                    counts.append(1 + fewest[begin + size, end])
                size *= 2
            fewest[begin, end] = min(counts)
    return fewest


class PlainIntegers:
    def assertPlain(self, values):
        for value in values:
            self.assertIs(type(value), int)


class BlockSizes(unittest.TestCase, PlainIntegers):
    def check(self, many):
        sizes = block_sizes(many)
        self.assertIs(type(sizes), list)
        self.assertPlain(sizes)
        self.assertEqual(sum(sizes), many)
        self.assertTrue(all(is_power(size) for size in sizes))
        self.assertEqual(sizes, sorted(set(sizes), reverse=True))

    def test_small_numbers(self):
        for many in range(2100):
            self.check(many)

    def test_great_numbers(self):
        for many in GREAT:
            self.check(many)

    def test_values(self):
        self.assertEqual(block_sizes(0), [])
        self.assertEqual(block_sizes(1), [1])
        self.assertEqual(block_sizes(6), [4, 2])
        self.assertEqual(block_sizes(8), [8])
        self.assertEqual(block_sizes(13), [8, 4, 1])

    def test_wrong_numbers(self):
        for value in WRONG:
            with self.assertRaises(BadNumber):
                block_sizes(value)

    def test_by_name(self):
        self.assertEqual(block_sizes(many=5), [4, 1])
        with self.assertRaises(BadNumber):
            block_sizes(many=-1)

    def test_each_list_is_new(self):
        sizes = block_sizes(7)
        sizes.append(9)
        self.assertEqual(block_sizes(7), [4, 2, 1])
        block_sizes(0).append(9)
        self.assertEqual(block_sizes(0), [])


class TotalBuilt(unittest.TestCase, PlainIntegers):
    def test_small_numbers(self):
        total = 0
        self.assertEqual(total_built(0), 0)
        for many in range(1, 2100):
            total += 2 ** slow_exponent(many)
            self.assertEqual(total_built(many), total)

    def test_great_numbers(self):
        for many in GREAT:
            self.assertEqual(total_built(many), slow_total(many))

    def test_values(self):
        self.assertEqual(total_built(1), 1)
        self.assertEqual(total_built(6), 11)
        self.assertEqual(total_built(2 ** 40), 2 ** 39 * 42)

    def test_kind(self):
        self.assertPlain([total_built(0), total_built(1), total_built(LIMIT)])

    def test_wrong_numbers(self):
        for value in WRONG:
            with self.assertRaises(BadNumber):
                total_built(value)

    def test_by_name(self):
        self.assertEqual(total_built(many=4), 8)


class Pieces(unittest.TestCase, PlainIntegers):
    def setUp(self):
        # Too many pieces for small numbers would be endlessly many for great ones.
        for begin, end in [(0, 64), (1, 64), (63, 130)]:
            self.assertLess(len(pieces(begin, end)), 9)

    def check(self, begin, end):
        found = pieces(begin, end)
        self.assertIs(type(found), list)
        at = begin
        for piece in found:
            self.assertIs(type(piece), tuple)
            self.assertPlain(piece)
            first, size = piece
            self.assertEqual(first, at)
            self.assertTrue(is_power(size))
            self.assertEqual(first % size, 0)
            at += size
        self.assertEqual(at, end)
        # Two neighbours of one size that begin a piece of twice that size would not be the fewest.
        for (first, size), (_, after) in zip(found, found[1:]):
            self.assertFalse(size == after and first % (2 * size) == 0, (begin, end))
        return found

    def test_as_few_as_possible(self):
        for (begin, end), fewest in fewest_pieces(70).items():
            self.assertEqual(len(self.check(begin, end)), fewest, (begin, end))

    def test_great_numbers(self):
        for one in [0, 1, 2, 3, 2 ** 64, *GREAT]:
            for other in GREAT:
                self.check(min(one, other), max(one, other))

    def test_any_numbers(self):
        source = random.Random(5)
        for _ in range(500):
            one, other = source.randint(0, LIMIT), source.randint(0, LIMIT)
            self.check(min(one, other), max(one, other))

    def test_values(self):
        self.assertEqual(pieces(3, 14), [(3, 1), (4, 4), (8, 4), (12, 2)])
        self.assertEqual(pieces(0, 13), [(0, 8), (8, 4), (12, 1)])
        self.assertEqual(pieces(0, 2 ** 99), [(0, 2 ** 99)])
        self.assertEqual(pieces(LIMIT - 1, LIMIT), [(LIMIT - 1, 1)])
        self.assertEqual(pieces(1, 2), [(1, 1)])
        self.assertEqual(pieces(0, 1), [(0, 1)])

    def test_begin_is_end(self):
        for at in [0, 1, 6, 8, LIMIT - 1, LIMIT]:
            self.assertEqual(pieces(at, at), [])

    def test_begin_is_greater_than_end(self):
        for begin, end in [(1, 0), (5, 4), (LIMIT, 0), (LIMIT, LIMIT - 1)]:
            with self.assertRaises(BadNumber):
                pieces(begin, end)

    def test_wrong_numbers(self):
        for value in WRONG:
            for begin, end in [(value, 9), (0, value), (value, LIMIT), (LIMIT, value), (value, value)]:
                with self.assertRaises(BadNumber):
                    pieces(begin, end)

    def test_by_name(self):
        self.assertEqual(pieces(end=6, begin=4), [(4, 2)])
        self.assertEqual(pieces(4, end=6), [(4, 2)])
        with self.assertRaises(BadNumber):
            pieces(begin=6, end=4)

    def test_each_list_is_new(self):
        found = pieces(1, 4)
        found.append((9, 1))
        self.assertEqual(pieces(1, 4), [(1, 1), (2, 2)])
        pieces(3, 3).append((9, 1))
        self.assertEqual(pieces(3, 3), [])


class OwnInteger(int):
    """An int that is not a bool."""


class Interface(unittest.TestCase):
    def test_any_int_but_a_bool_is_an_integer(self):
        self.assertEqual(block_sizes(OwnInteger(13)), [8, 4, 1])
        self.assertEqual(total_built(OwnInteger(6)), 11)
        self.assertEqual(pieces(OwnInteger(4), OwnInteger(7)), [(4, 2), (6, 1)])

    def test_errors_are_once_errors(self):
        for call in (lambda: block_sizes(-1), lambda: total_built(None), lambda: pieces(2, 1)):
            with self.assertRaises(OnceError):
                call()

    def test_functions_are_defined_in_plans(self):
        for name in ("block_sizes", "total_built", "pieces"):
            self.assertEqual(getattr(plans, name).__module__, "oncebuilt.plans")


if __name__ == "__main__":
    unittest.main()
