"""That set_with is fast at rows of sizes with many makers of many letters, and right there."""

import time
import unittest
from fractions import Fraction

from mirrordoors.counts import set_with
from tests import house

LAST = (0,) * 59 + (200,)


def made_sizes(seed):
    """A row of 20 to 60 sizes, together 100 to 200, another one for each seed."""
    length, total = 20 + seed * 7 % 41, 100 + seed * 13 % 101
    # The later the places from which on there are makers, the more often there are enough WAYs.
    first = min(seed % 5 * length // 4, length - 1)
    sizes = [0] * length
    state = seed * 7919 + 104729
    for _ in range(total):
        state = (state * 1103515245 + 12345) % 2 ** 31
        sizes[first + (state >> 12) % (length - first)] += 1
    return tuple(sizes)


ROWS = [(many, made_sizes(seed)) for seed in range(125) for many in (2, 3, 3, 4, 5, 6, 7, 8)]


def shares_of(many, sizes):
    """What the shares of so many makers come to."""
    return sum(Fraction(size, many * (many - 1) ** place) for place, size in enumerate(sizes))


class SizesTest(unittest.TestCase):
    def check(self, many, sizes, made):
        if shares_of(many, sizes) > 1:
            self.assertIsNone(made, (many, sizes))
            return False
        self.assertIs(type(made), tuple)
        for way in made:
            self.assertTrue(set(way) <= set(house.LETTERS[:many]))
            self.assertFalse(way == "" or house.has_neighbours(way))
        self.assertEqual(made, tuple(sorted(set(made))))
        self.assertFalse(any(other.startswith(one) for one, other in zip(made, made[1:])))
        lengths = [len(way) for way in made]
        self.assertEqual([lengths.count(place + 1) for place in range(len(sizes))], list(sizes))
        self.assertEqual(len(made), sum(sizes))
        return True

    def test_rows_of_sizes(self):
        for many, sizes in ROWS:
            self.assertTrue(20 <= len(sizes) <= 60 and 100 <= sum(sizes) <= 200)
        start = time.perf_counter()
        told = [set_with(many, sizes) for many, sizes in ROWS]
        self.assertLess(time.perf_counter() - start, 3)
        there = [self.check(many, sizes, made) for (many, sizes), made in zip(ROWS, told)]
        self.assertTrue(200 < there.count(True) < 900, there.count(True))

    def test_great_sizes(self):
        start = time.perf_counter()
        for _ in range(1000):
            made = set_with(8, LAST)
        self.assertLess(time.perf_counter() - start, 3)
        self.assertIs(self.check(8, LAST, made), True)
        for many in range(2, 9):
            for sizes in (LAST, (0,) * 59 + (60,), (1,) * 60, (0, 1) * 30, (1,) + (many - 2,) * 59,
                          (0,) * 58 + (100, 100), (0, 0, 3) * 20, (many,) + (0,) * 59, (0,) * 60):
                self.check(many, sizes, set_with(many, sizes))

    def test_nothing_is_left_over(self):
        """Rows whose shares come to just 1, and to just more."""
        for many in range(3, 9):
            for length in range(2, 60):
                whole = (many - 1,) + (many - 2,) * (length - 2) + (many - 1,)
                self.assertEqual(shares_of(many, whole), 1)
                self.assertIs(self.check(many, whole, set_with(many, whole)), True)
                self.assertIs(self.check(many, whole + (0,), set_with(many, whole + (0,))), True)
                self.assertIsNone(set_with(many, whole + (1,)))
                self.assertIsNone(set_with(many, whole[:-1] + (many,)))


if __name__ == "__main__":
    unittest.main()
