"""fewest_turns, turns_for and is_turns_for at ROWs of many letters."""

import time
import unittest

from mirrordoors.looks import fewest_turns, is_turns_for, turns_for
from mirrordoors.rows import is_way, palindrome
from tests import house


def in_turn(letters, length):
    return (letters * length)[:length]


def turned_at_few(seed, turns, length):
    """A ROW of at most so many letters, to which so many doors lead "", whatever they are."""
    row, places = "", [house.made_row(seed + k, 9 + (seed + 4 * k) % 7, 3) for k in range(turns)]
    for way in places:
        longer = house.led_by_walking(row, [way])
        row = longer if len(longer) <= length else row
    return row


IN_TURN = [in_turn(letters, length)
           for letters in ("ab", "abcdefgh", "abc", "hgfe") for length in range(56, 61)]
PALINDROMES = [palindrome(house.made_row(seed, letters, many))
               for seed in range(3) for letters in (29, 30) for many in (2, 3, 8)]
MADE = [house.made_row(seed, 56 + seed % 5, many)
        for seed in range(10) for many in range(2, 9)]
BETWEEN_ENDS = ["abcd" + house.made_row(seed, 52, 3).replace("a", "e") + "dcba" for seed in range(3)]
FEW = [row for row in [turned_at_few(seed, 9, 60) for seed in range(120)] if len(row) >= 56][:12]
DRAWN = ["abc", "abcb", "abcabc", "abcacb", "abacbc", "acbabca", "abcbacbc", "cabacabac", "bcabcacb",
         "abcabcabc", "abcacbabc", "cbacbcabca", "abacabcabac", "bacbcabacbab", "abcabcabcabc",
         "acbacbcabcab", "abacbabcbacbc"]


def with_a_letter_exchanged(ways):
    """The tuples in which one letter of one WAY is another one."""
    for k, way in enumerate(ways):
        for at in (0, len(way) // 2, len(way) - 1):
            for letter in "aceh":
                if letter != way[at]:
                    other = way[:at] + letter + way[at + 1:]
                    yield ways[:k] + (other,) + ways[k + 1:]


class LongRowsTest(unittest.TestCase):
    def check(self, row, few):
        self.assertEqual(fewest_turns(row), few, row)
        ways = turns_for(row)
        self.assertIs(type(ways), tuple)
        self.assertEqual(len(ways), few, row)
        self.assertTrue(all(is_way(way) for way in ways), row)
        self.assertEqual(house.led_by_walking("", ways), row)
        self.assertIs(is_turns_for(row, ways), True)
        self.check_near(row, ways)

    def check_near(self, row, ways):
        self.assertIs(is_turns_for(row, list(ways)), False)
        for k in range(len(ways)):
            self.assertIs(is_turns_for(row, ways[:k] + ways[k + 1:]), False)
        for more in ("a", "ab", row):
            self.assertIs(is_turns_for(row, ways + (more,)), False)
            self.assertIs(is_turns_for(row, (more,) + ways), False)
        for k in range(len(ways) - 1):
            turned_about = ways[:k] + (ways[k + 1], ways[k]) + ways[k + 2:]
            same = house.led_by_walking("", turned_about) == row
            self.assertIs(is_turns_for(row, turned_about), same)
        for other in with_a_letter_exchanged(ways):
            right = not any(map(house.has_neighbours, other))
            right = right and house.led_by_walking("", other) == row
            self.assertIs(is_turns_for(row, other), right)

    def test_letters_in_turn(self):
        for row in IN_TURN:
            self.check(row, house.fewest_by_spans(row))

    def test_two_letters(self):
        for length in range(1, 61):
            for letters in ("ab", "hc"):
                row = in_turn(letters, length)
                self.assertEqual(fewest_turns(row), 2 - length % 2)
                self.assertEqual(len(turns_for(row)), 2 - length % 2)
                self.assertEqual(house.led_by_walking("", turns_for(row)), row)

    def test_palindromes(self):
        for row in PALINDROMES:
            self.check(row, 1)
            self.assertEqual(turns_for(row), (row[:len(row) // 2 + 1],))

    def test_made_rows(self):
        for row in MADE:
            self.check(row, house.fewest_by_spans(row))

    def test_few_turns(self):
        self.assertGreater(len(FEW), 6)
        for row in FEW:
            few = house.fewest_by_spans(row)
            self.assertLessEqual(few, 9)
            self.check(row, few)

    def test_like_ends(self):
        for row in BETWEEN_ENDS:
            self.assertEqual(fewest_turns(row), house.fewest_by_spans(row[4:-4]))
            self.check(row, house.fewest_by_spans(row))

    def test_somewhat_beyond_the_bound(self):
        for length in (61, 64, 80, 127, 128, 130):
            for row in (house.made_row(length, length, 3), in_turn("ab", length),
                        in_turn("abcdefgh", length)):
                self.assertEqual(fewest_turns(row), house.fewest_by_spans(row))
                self.assertEqual(len(turns_for(row)), fewest_turns(row))
                self.assertEqual(house.led_by_walking("", turns_for(row)), row)
                self.assertIs(is_turns_for(row, turns_for(row)), True)

    def test_equal_results_again(self):
        for row in IN_TURN + MADE[:20]:
            self.assertEqual(turns_for(row), turns_for(row=row))
            self.assertEqual(fewest_turns(row), fewest_turns(row=row))
            self.assertIs(is_turns_for(row=row, thing=turns_for(row)), True)


class SetsOfLettersTest(unittest.TestCase):
    def test_all_rows_of_two_letters(self):
        for row in house.rows(2, 9):
            self.assertEqual(fewest_turns(row), house.fewest_by_sets(row), row)

    def test_drawn_rows(self):
        for row in DRAWN:
            few = house.fewest_by_sets(row)
            self.assertEqual(fewest_turns(row), few, row)
            self.assertEqual(house.fewest_by_spans(row), few, row)
            self.assertEqual(len(turns_for(row)), few, row)
            self.assertEqual(house.led_by_walking("", turns_for(row)), row)

    def test_all_rows_of_three_letters(self):
        for row in house.rows(3, 9):
            self.assertEqual(fewest_turns(row), house.fewest_by_spans(row), row)


class TimeTest(unittest.TestCase):
    def test_three_hundred_calls_of_each(self):
        rows = [in_turn("ab", 60), in_turn("abcdefgh", 60), house.made_row(1, 60, 3)]
        answers = [turns_for(row) for row in rows]
        start = time.perf_counter()
        for _ in range(100):
            for row, ways in zip(rows, answers):
                self.assertEqual(fewest_turns(row), len(ways))
                self.assertEqual(turns_for(row), ways)
                self.assertIs(is_turns_for(row, ways), True)
        # A small part of a second here; the bound leaves room for a slow machine.
        self.assertLess(time.perf_counter() - start, 3)


if __name__ == "__main__":
    unittest.main()
