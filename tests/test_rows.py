import unittest

from mirrordoors.errors import NoMirror
from mirrordoors.rows import (
    back, begins, distance, doors_on, is_palindrome, is_row, is_way, is_word, joined, meeting,
    next_rooms, palindrome, path, reduced, rooms_of, turned, way_of)
from tests import house
from tests.calls import check_calls

LONG = [house.made_row(seed, 200, many) for seed in range(4) for many in (2, 3, 5, 8)]
SOME = house.rows(3, 3) + ["h", "hg", "abcdefgh"]


class ExamplesTest(unittest.TestCase):
    def test_rows(self):
        self.assertEqual(
            (reduced("abba"), reduced("abbac"), reduced("abcb"), joined("abc", "cba"),
             joined("abc", "cab"), back("abc")),
            ('', 'c', 'abcb', '', 'abab', 'cba'))

    def test_ways_between_rooms(self):
        self.assertEqual(
            (path("ab", "acb"), distance("ab", "acb"), doors_on("ab", "acb"), doors_on("a", "a"),
             meeting("ab", "acb", "b"), meeting("abc", "", "ab")),
            ('bcb', 3, ('ab', 'ac', 'acb'), (), 'a', 'ab'))

    def test_rooms(self):
        self.assertEqual(
            (next_rooms("ab", 3), next_rooms("", 2), begins("ab", "abc"), begins("abc", "ab"),
             begins("", ""), rooms_of("abc"), rooms_of("a")),
            (('aba', 'a', 'abc'), ('a', 'b'), True, False, True, ('ab', 'abc'), ('', 'a')))

    def test_palindromes(self):
        self.assertEqual(
            (palindrome("abc"), palindrome("a"), way_of("abcba"), is_palindrome("aba"),
             is_palindrome("abba"), is_palindrome("aaa"), is_palindrome("")),
            ('abcba', 'a', 'abc', True, False, False, False))

    def test_turned(self):
        self.assertEqual(
            (turned("ab", "a"), turned("ab", "ab"), turned("ab", ""), turned("ab", "c"),
             turned("ab", "abc")),
            ('ab', 'a', 'aba', 'abac', 'ac'))

    def test_things(self):
        self.assertEqual(
            (is_word("abba"), is_row("abba"), is_row(""), is_way(""), is_way("abab"),
             is_word("xyz"), is_word(None)),
            (True, False, True, False, True, False, False))

    def test_no_mirror(self):
        with self.assertRaises(NoMirror):
            way_of("abab")


class CallsTest(unittest.TestCase):
    CALLS = [
        (is_word, {"thing": "abba"}, True), (is_row, {"thing": "aba"}, True),
        (is_way, {"thing": "ab"}, True), (reduced, {"word": "abb"}, "a"),
        (joined, {"one": "ab", "other": "bc"}, "ac"), (back, {"row": "abc"}, "cba"),
        (path, {"one": "ab", "other": "a"}, "b"),
        (distance, {"one": "ab", "other": "b"}, 3),
        (doors_on, {"one": "ab", "other": "c"}, ("ab", "a", "c")),
        (meeting, {"one": "ab", "other": "ac", "third": "c"}, "a"),
        (next_rooms, {"room": "b", "many": 3}, ("ba", "", "bc")),
        (begins, {"one": "a", "other": "ab"}, True), (rooms_of, {"way": "ab"}, ("a", "ab")),
        (palindrome, {"way": "ab"}, "aba"), (is_palindrome, {"thing": "aba"}, True),
        (way_of, {"row": "aba"}, "ab"), (turned, {"way": "ab", "room": "c"}, "abac"),
    ]

    def test_by_names(self):
        check_calls(self, self.CALLS)

    def test_kinds(self):
        for one in SOME:
            for other in SOME:
                self.assertIs(type(doors_on(one, other)), tuple)
                self.assertIs(type(begins(one, other)), bool)
                self.assertIs(type(distance(one, other)), int)
            self.assertIs(type(next_rooms(one, 2)), tuple)
            self.assertIs(type(rooms_of(one or "a")), tuple)


class ThingsTest(unittest.TestCase):
    def test_nothing_but_strings_of_letters(self):
        for thing in house.NO_WORDS + house.NESTED:
            for function in (is_word, is_row, is_way, is_palindrome):
                self.assertIs(function(thing), False, (function.__name__, thing))

    def test_each_letter(self):
        for code in range(0x250):
            letter = code in range(ord("a"), ord("h") + 1)
            for function in (is_word, is_row, is_way, is_palindrome):
                self.assertIs(function(chr(code)), letter, (function.__name__, code))
            self.assertIs(is_word("ab" + chr(code)), letter)
            self.assertIs(is_word(chr(code) + "ab"), letter)
            self.assertIs(is_row("ab" + chr(code)), letter and chr(code) != "b")
            self.assertIs(is_way(chr(code) + "ab"), letter and chr(code) != "a")

    def test_the_beginning(self):
        self.assertIs(is_word(""), True)
        self.assertIs(is_row(""), True)
        self.assertIs(is_way(""), False)
        self.assertIs(is_palindrome(""), False)

    def test_all_short_words(self):
        for word in house.words(3, 6):
            row = not any(pair in word for pair in ("aa", "bb", "cc"))
            self.assertIs(is_word(word), True)
            self.assertIs(is_row(word), row)
            self.assertIs(is_way(word), row and word != "")
            same = list(reversed(word)) == list(word)
            self.assertIs(is_palindrome(word), row and word != "" and same)

    def test_beyond_the_bounds(self):
        long = "abcdefgh" * 500
        for function in (is_word, is_row, is_way):
            self.assertIs(function(long), True)
            self.assertIs(function(long + "i"), False)
            self.assertIs(function("x" + long), False)
        for function, answer in ((is_word, True), (is_row, False), (is_way, False)):
            self.assertIs(function(long + "h"), answer)
            self.assertIs(function("a" + long), answer)
            self.assertIs(function(long + long[::-1]), answer)
        self.assertIs(is_palindrome(long + long[-2::-1]), True)
        self.assertIs(is_palindrome(long), False)
        self.assertIs(is_palindrome(long + long[::-1]), False)


class RowsTest(unittest.TestCase):
    def test_reduced_in_any_order(self):
        for word in house.words(2, 8):
            self.assertEqual({reduced(word)}, house.all_that_is_left(word), word)
        for word in house.words(3, 6):
            self.assertEqual(reduced(word), house.leave_out_last(word), word)
            self.assertEqual(reduced(word), house.walk("", word), word)
            self.assertTrue(house.has_neighbours(reduced(word)) is False)

    def test_reduced_long(self):
        for row in LONG:
            self.assertEqual(reduced(row), row)
            self.assertEqual(reduced(row[:100] + row[:100][::-1]), "")
            self.assertEqual(reduced("".join(x + x for x in row[:100])), "")
            self.assertEqual(reduced("".join(x * 3 for x in row[:66])), row[:66])
            word = "".join(x * (1 + k % 4) for k, x in enumerate(row[:80]))
            self.assertEqual(reduced(word), house.leave_out_last(word))
        self.assertEqual(reduced(""), "")
        self.assertEqual(reduced("a" * 200), "")
        self.assertEqual(reduced("h" * 199), "h")

    def test_joined(self):
        for one in house.rows(3, 4):
            for other in house.rows(3, 4):
                self.assertEqual(joined(one, other), house.leave_out_last(one + other))
        for one in LONG:
            self.assertEqual(joined(one, ""), one)
            self.assertEqual(joined("", one), one)
            self.assertEqual(joined(one, one[::-1]), "")
            self.assertEqual(joined(one, one[:50:-1]), one[:51])
            self.assertEqual(joined(one[:51], one[:51][::-1] + one[51:53][::-1]),
                             house.walk("", one[51:53][::-1]))
            for other in LONG:
                self.assertEqual(joined(one, other), house.walk(one, other))

    def test_back(self):
        for row in SOME + LONG:
            self.assertEqual(back(row), "".join(reversed(row)))
            self.assertEqual(back(back(row)), row)
            self.assertEqual(joined(row, back(row)), "")
        self.assertEqual(back(""), "")


class PathsTest(unittest.TestCase):
    def check(self, one, other, rooms):
        doors = [house.door_between(here, there) for here, there in zip(rooms, rooms[1:])]
        self.assertEqual(doors_on(one, other), tuple(doors))
        self.assertEqual(path(one, other), "".join(door[-1] for door in doors))
        self.assertEqual(distance(one, other), len(doors))
        self.assertEqual(len(set(doors)), len(doors))

    def test_all_near_rooms(self):
        for one in house.rows(3, 3):
            for other in house.rows(3, 3):
                searched = house.rooms_searched(one, other, 3)
                self.assertEqual(searched, house.rooms_on(one, other))
                self.check(one, other, searched)
                self.assertEqual(joined(one, path(one, other)), other)
                self.assertEqual(path(other, one), back(path(one, other)))
                self.assertEqual(doors_on(other, one), doors_on(one, other)[::-1])

    def test_long_rows(self):
        for one in LONG[:8]:
            for other in LONG[:8] + ["", one[:1], one[:100], one[:199], one[:100] + "h", "hg"]:
                if not house.has_neighbours(other):
                    self.check(one, other, house.rooms_on(one, other))
                    self.check(other, one, house.rooms_on(other, one))

    def test_edges(self):
        self.assertEqual((path("", ""), distance("", ""), doors_on("", "")), ("", 0, ()))
        self.assertEqual((path("", "h"), distance("", "h"), doors_on("", "h")), ("h", 1, ("h",)))
        self.assertEqual((path("h", ""), distance("h", ""), doors_on("h", "")), ("h", 1, ("h",)))
        self.assertEqual(distance("ab" * 100, "ba" * 100), 400)

    def test_meeting_of_all_near_rooms(self):
        near = house.rows(3, 2) + ["aba", "abc", "acb", "cab", "cba"]
        between = {(one, other): house.rooms_on(one, other) for one in near for other in near}
        for one in near:
            for other in near:
                for third in near:
                    rooms = [room for room in between[one, other]
                             if room in between[one, third] and room in between[other, third]]
                    self.assertEqual([meeting(one, other, third)], rooms)

    def test_meeting_far(self):
        row = LONG[-1]
        self.assertEqual(meeting(row, "", row[:77]), row[:77])
        self.assertEqual(meeting(row, row, ""), row)
        self.assertEqual(meeting("", row, ""), "")
        for end in (0, 1, 50, 199):
            near = [row[:end] + letter for letter in house.LETTERS[:3]]
            near = [room for room in near if not house.has_neighbours(room)]
            self.assertEqual(meeting(near[0], near[1], row[:end]), row[:end])
            self.assertEqual(meeting(near[0], near[-1], near[-1]), near[-1])


class RoomsTest(unittest.TestCase):
    def test_next_rooms(self):
        for many in range(2, 9):
            rooms = house.rows(many, 2) + [house.made_row(many, 200, many)]
            for room in rooms:
                beyond = tuple(house.step(room, letter) for letter in house.LETTERS[:many])
                self.assertEqual(next_rooms(room, many), beyond)
                for there in beyond:
                    self.assertIn(room, next_rooms(there, many))
                    self.assertEqual(distance(room, there), 1)
        self.assertEqual(next_rooms("", 8), tuple("abcdefgh"))

    def test_begins(self):
        for one in house.rows(3, 3):
            for other in house.rows(3, 4):
                told = one == other or one in [other[:end] for end in range(len(other))]
                self.assertIs(begins(one, other), told)
        for row in LONG:
            self.assertIs(begins("", row), True)
            self.assertIs(begins(row, row), True)
            self.assertIs(begins(row[:199], row), True)
            self.assertIs(begins(row, row[:199]), False)
            self.assertIs(begins(row[1:], row), False)

    def test_rooms_of(self):
        for way in house.ways(3, 4) + LONG:
            near, far = rooms_of(way)
            self.assertEqual(far, way)
            self.assertEqual(near, house.step(way, way[-1]))
            self.assertEqual(doors_on(near, far), (way,))
        self.assertEqual(rooms_of("h"), ("", "h"))


class PalindromesTest(unittest.TestCase):
    def test_of_ways(self):
        for way in house.ways(3, 5) + LONG + ["h"]:
            told = palindrome(way)
            self.assertEqual(len(told), 2 * len(way) - 1)
            self.assertEqual(told[:len(way)], way)
            self.assertEqual(told, "".join(reversed(told)))
            self.assertEqual(told, house.turned_by_walking(way, ""))
            self.assertIs(is_palindrome(told), True)
            self.assertEqual(way_of(told), way)

    def test_of_all_short_rows(self):
        mirrors = {palindrome(way): way for way in house.ways(3, 4)}
        self.assertEqual(len(mirrors), len(house.ways(3, 4)))
        for row in house.rows(3, 7):
            self.assertIs(is_palindrome(row), row in mirrors)
            if row in mirrors:
                self.assertEqual(way_of(row), mirrors[row])
            else:
                with self.assertRaises(NoMirror):
                    way_of(row)

    def test_no_mirror(self):
        for row in ["", "ab", "abc", "abab", "abcb", "bcba", "abcbab", "h" + "ab" * 99] + LONG:
            with self.assertRaises(NoMirror):
                way_of(row)

    def test_longest(self):
        for many in (2, 3, 8):
            half = house.made_row(many, 100, many)
            self.assertEqual(way_of(half + half[-2::-1]), half)


class TurnedTest(unittest.TestCase):
    def test_rooms_change_places_and_all_go_with_them(self):
        for way in house.ways(3, 3):
            self.assertEqual(turned(way, way), way[:-1])
            self.assertEqual(turned(way, way[:-1]), way)
            for room in house.rows(3, 4):
                there = turned(way, room)
                self.assertEqual(there, house.turned_by_walking(way, room))
                self.assertEqual(there, house.walk(palindrome(way), room))
                self.assertNotEqual(there, room)
                self.assertEqual(turned(way, there), room)
                for letter in "abc":
                    self.assertEqual(turned(way, house.step(room, letter)),
                                     house.step(there, letter))

    def test_distances_stay(self):
        for way in ("a", "bc", "aba", "hgh"):
            for one in SOME:
                for other in SOME:
                    self.assertEqual(distance(turned(way, one), turned(way, other)),
                                     distance(one, other))

    def test_long(self):
        for way in LONG:
            for room in LONG[:4] + ["", way, way[:-1], way[:50]]:
                self.assertEqual(turned(way, room), house.turned_by_walking(way, room))
            self.assertEqual(turned(way, ""), palindrome(way))
            self.assertEqual(turned(way, palindrome(way)), "")


if __name__ == "__main__":
    unittest.main()
