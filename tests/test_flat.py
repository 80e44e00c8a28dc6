import functools
import itertools
import math
import unittest

from mirrordoors.errors import NoLetter
from mirrordoors.flat import (
    alike_flat, alike_round, fewest_letters, flat_after, how_many_fewest, is_parting_places,
    is_places, is_way_with, number_shown, parting_places, sums_of, way_with)
from mirrordoors.rows import is_way
from tests import family, house
from tests.calls import check_calls, check_lists, each_part_listed, listed

FAR = 10 ** 40
PLACES = (("a", 5), ("b", 3))
EVERY = tuple((letter, (k * k + 3) * (-1) ** k) for k, letter in enumerate(house.LETTERS))
GREAT = tuple((letter, FAR - 7 ** k if k % 2 else k - FAR) for k, letter in enumerate(house.LETTERS))
LONG = [house.made_row(seed, 200 - seed, 2 + seed % 7) for seed in range(7)]
# How long WAYs of so many letters are tried, one after another.
TRIED = {2: 12, 3: 9, 4: 6, 5: 5}


def mirror_at(way, numbers):
    """The number at which the mirror of a WAY is: that of the rest, seen in its first letter."""
    if len(way) == 1:
        return numbers[way]
    return 2 * numbers[way[0]] - mirror_at(way[1:], numbers)


def sums_by_places(way, many):
    row = family.pal(way)
    return tuple(sum((-1) ** k for k, here in enumerate(row) if here == letter)
                 for letter in house.LETTERS[:many])


@functools.lru_cache(maxsize=None)
def by_sums(many):
    """For each SUMS of WAYs that are tried, all WAYs that have them, the short ones first."""
    found = {}
    for way in house.ways(many, TRIED[many]):
        found.setdefault(sums_by_places(way, many), []).append(way)
    return found


def round_mirror(points, at):
    return tuple((2 * at - x) % points for x in range(points))


class CallsTest(unittest.TestCase):
    CALLS = [
        (sums_of, {"way": "abc", "many": 3}, (2, -2, 1)),
        (alike_flat, {"one": "abcba", "other": "cbaba"}, True),
        (alike_round, {"one": "ab", "other": "ba", "points": 12}, False),
        (is_places, {"thing": PLACES}, True),
        (number_shown, {"way": "ab", "places": PLACES}, 7),
        (flat_after, {"places": PLACES, "word": "aba", "number": 8}, 6),
        (parting_places, {"one": "abcba", "other": "cbaba"}, None),
        (is_parting_places, {"one": "ab", "other": "ba", "thing": (("a", 0), ("b", 1))}, True),
        (way_with, {"sums": (0, 1)}, "b"),
        (is_way_with, {"sums": (3, -4, 2), "thing": "abcba"}, True),
        (fewest_letters, {"sums": (3, -4, 2)}, 5),
        (how_many_fewest, {"sums": (3, -4, 2)}, 2),
    ]

    def test_by_names(self):
        check_calls(self, self.CALLS)
        self.assertEqual(parting_places(one="ab", other="ba"), parting_places("ab", "ba"))
        self.assertEqual(way_with(sums=(3, -4, 2)), way_with((3, -4, 2)))

    def test_lists_for_tuples(self):
        check_lists(self, self.CALLS)
        self.assertEqual(way_with([3, -4, 2]), way_with((3, -4, 2)))
        self.assertEqual(is_way_with([3, -4, 2], "abcba"), True)


class SumsTest(unittest.TestCase):
    def test_sums(self):
        for many in range(2, 9):
            for way in house.ways(many, 3) + house.ways(2, 8):
                told = sums_of(way, many)
                self.assertEqual(told, sums_by_places(way, many))
                self.assertIs(type(told), tuple)
        for way in LONG:
            told = sums_of(way, 8)
            self.assertEqual(told, sums_by_places(way, 8))
            self.assertEqual(sum(told), 1)
            self.assertEqual([k for k in range(8) if told[k] % 2], [house.LETTERS.index(way[-1])])

    def test_alike_flat(self):
        """Mirrors at numbers here and there, and far from one another."""
        far = {letter: 1000 ** k for k, letter in enumerate(house.LETTERS)}
        for many, longest in ((2, 6), (3, 4), (4, 3)):
            for one, other in itertools.product(house.ways(many, longest), repeat=2):
                there = mirror_at(one, far) == mirror_at(other, far)
                self.assertIs(alike_flat(one, other), there, (one, other))
                if len(set(one + other)) <= 2:
                    self.assertIs(there, one == other)
        self.assertIs(alike_flat("abcba", "cbaba"), True)

    def test_alike_long(self):
        for one in LONG:
            self.assertIs(alike_flat(one, one), True)
            for other in LONG:
                self.assertIs(alike_flat(one, other), sums_by_places(one, 8) == sums_by_places(other, 8))
        ahead = ("abc" * 66)[:197]
        self.assertIs(alike_flat("abcdabcb", "cbadabcb"), True)
        self.assertIs(alike_flat("abcbab" + ahead[6:], "cbabab" + ahead[6:]), True)
        self.assertIs(alike_flat("ab" * 100, "ba" * 100), False)

    def test_all_rounds(self):
        """All places of all mirrors of the letters, in rounds of few points."""
        for many, longest, points in ((2, 5, 9), (3, 3, 6), (2, 8, 4), (3, 4, 4)):
            ways = house.ways(many, longest)
            for size in range(1, points + 1):
                shown = {way: [] for way in ways}
                for at in itertools.product(range(size), repeat=many):
                    numbers = dict(zip(house.LETTERS, at))
                    for way in ways:
                        shown[way].append(round_mirror(size, mirror_at(way, numbers)))
                for one, other in itertools.product(ways, repeat=2):
                    self.assertIs(alike_round(one, other, size), shown[one] == shown[other],
                                  (one, other, size))

    def test_great_rounds(self):
        for way in LONG:
            for points in (1, 2, FAR, FAR - 1):
                self.assertIs(alike_round(way, way, points), True)
                self.assertIs(alike_round(way, LONG[0], points), points < 3 or way == LONG[0])
        # The sums of these differ by 120 and -120.
        one, other = "ab" * 30, "ba" * 30
        for points in range(1, 500):
            step = points if points % 2 else points // 2
            self.assertIs(alike_round(one, other, points), 119 % step == 0, points)
        for points in (118, 119, 120, 237, 238, 239, 240):
            self.assertIs(alike_round(one, other, points), points in (119, 238))


class PlacesTest(unittest.TestCase):
    NOT_ONE = [
        [], [("a", 1)], (["a", 1],), (("a", 1), ["b", 2]), [["a", 1]], (("a",),), (("a", 1, 2),), ((),),
        ("a", 1), ("a",), (("b", 1), ("a", 1)), (("a", 1), ("a", 1)), (("a", 1), ("a", 2)),
        (("a", 1), ("b", 2), ("b", 3)), (("a", True),), (("a", False),), (("a", None),), (("a", "1"),),
        (("a", (1,)),), (("a", [1]),), (("", 1),), (("ab", 1),), (("i", 1),), (("A", 1),), ((0, 1),),
        ((None, 1),), ((("a",), 1),), ((["a"], 1),), ((True, 1),), (("a", 1), ()), (("a", 1), None),
        (("a", 1), ("c", 1), ("b", 1)), ((1, "a"),), "a1", {"a": 1}, None, True, 0, "", "a",
        ((("a", 1),),), (("a", 1), ("h", 2), ("i", 3)), (("a", 1.0),), ("ab",), ("a1", "b2"),
    ]

    def test_places(self):
        for letters in itertools.product(house.LETTERS[:3] + "h", repeat=3):
            for length in range(4):
                thing = tuple((letter, k - 1) for k, letter in enumerate(letters[:length]))
                there = all(x < y for x, y in zip(letters[:length], letters[1:length]))
                self.assertIs(is_places(thing), there)
        for thing in (PLACES, EVERY, GREAT, (), (("h", -FAR ** 5),), (("a", 0), ("b", 0))):
            self.assertIs(is_places(thing), True)
            for form in each_part_listed(thing):
                self.assertIs(is_places(form), False)

    def test_wrong_things(self):
        for thing in self.NOT_ONE + house.ODD + house.NESTED:
            if thing != ():
                self.assertIs(is_places(thing), False, thing)
                for one, other in (("ab", "ba"), ("a", "b"), ("a", "a")):
                    self.assertIs(is_parting_places(one, other, thing), False, thing)

    def test_number_shown(self):
        for places in (EVERY, GREAT, PLACES + (("c", 0),), (("a", FAR), ("b", -FAR), ("c", FAR - 1))):
            numbers = dict(places)
            for way in house.ways(3, 5) + (LONG if len(places) == 8 else []):
                told = number_shown(way, places)
                self.assertEqual(told, mirror_at(way, numbers))
                total = sum(many * numbers.get(letter, 0)
                            for letter, many in zip(house.LETTERS, sums_by_places(way, 8)))
                self.assertEqual(told, total)
                for number in (0, 1, -5, FAR):
                    self.assertEqual(flat_after(places, family.pal(way), number), 2 * told - number)

    def test_flat_after(self):
        for places in (EVERY, GREAT, PLACES + (("c", -8),)):
            numbers = dict(places)
            for word in itertools.chain(house.words(3, 4), LONG[:1] if len(places) == 8 else []):
                for number in (0, 7, -FAR, FAR):
                    there = number
                    for letter in word:
                        there += 2 * (numbers[letter] - there)
                    self.assertEqual(flat_after(places, word, number), there)
        self.assertEqual(flat_after((), "", 12), 12)
        self.assertEqual(flat_after((("c", 2),), "ccc", FAR), 4 - FAR)

    def test_no_letter(self):
        places = (("b", 1), ("d", 2))
        for word in house.ways(4, 4) + ["bdbh", "bg", "bdg"]:
            missing = [letter for letter in word if letter not in "bd"]
            for function, values in ((number_shown, (word, places)), (flat_after, (places, word, 3))):
                if missing:
                    with self.assertRaises(NoLetter) as told:
                        function(*values)
                    self.assertEqual(vars(told.exception), {"letter": missing[0]})
                else:
                    function(*values)
        for values, letter in ((((), "aa", 0), "a"), ((PLACES, "abcd", 0), "c"), ((PLACES, "hc", 0), "h")):
            with self.assertRaises(NoLetter) as told:
                flat_after(*values)
            self.assertEqual(told.exception.letter, letter)
        with self.assertRaises(NoLetter):
            number_shown("a", ())


class PartingTest(unittest.TestCase):
    def check(self, one, other):
        told = parting_places(one, other)
        if sums_by_places(one, 8) == sums_by_places(other, 8):
            self.assertIsNone(told)
            return
        self.assertIs(is_places(told), True)
        numbers = dict(told)
        self.assertTrue(set(one + other) <= set(numbers))
        self.assertNotEqual(mirror_at(one, numbers), mirror_at(other, numbers))
        self.assertIs(is_parting_places(one, other, told), True)
        self.assertIs(is_parting_places(other, one, told), True)
        for form in each_part_listed(told):
            self.assertIs(is_parting_places(one, other, form), False)

    def test_near(self):
        for many, longest in ((3, 3), (2, 5), (8, 2)):
            for one, other in itertools.product(house.ways(many, longest), repeat=2):
                self.check(one, other)
        for one, other in (("abcba", "cbaba"), ("abcbacab", "cbabacab"), ("abcd", "cbad")):
            self.check(one, other)

    def test_long(self):
        for one, other in itertools.product(LONG, repeat=2):
            self.check(one, other)

    def test_all_near_places(self):
        for one, other in itertools.product(house.ways(2, 3) + ["ac", "abc"], repeat=2):
            for letters in ("", "a", "b", "ab", "ac", "abc", "bch"):
                for numbers in itertools.product((-1, 0, 2), repeat=len(letters)):
                    thing = tuple(zip(letters, numbers))
                    there = set(one + other) <= set(letters)
                    there = there and mirror_at(one, dict(thing)) != mirror_at(other, dict(thing))
                    self.assertIs(is_parting_places(one, other, thing), there, (one, other, thing))

    def test_great_numbers(self):
        great = (("a", FAR ** 3), ("b", FAR ** 3 + 1), ("h", 0))
        self.assertIs(is_parting_places("ab", "ba", great), True)
        self.assertIs(is_parting_places("ab", "ba", great[:1] + (("b", FAR ** 3),)), False)
        self.assertIs(is_parting_places("a", "a", great), False)
        self.assertIs(is_parting_places("a", "c", great), False)
        self.assertIs(is_parting_places("abcba", "cbaba", EVERY), False)


class WaysWithTest(unittest.TestCase):
    def test_all_near_sums(self):
        for many in TRIED:
            found = by_sums(many)
            longest = TRIED[many]
            box = {2: 9, 3: 5, 4: 3, 5: 2}[many]
            for sums in itertools.product(range(-box, box + 1), repeat=many):
                ways = found.get(sums, [])
                there = sum(sums) == 1 and sum(number % 2 for number in sums) == 1
                if not there:
                    self.assertEqual(ways, [])
                    self.assertEqual((way_with(sums), fewest_letters(sums), how_many_fewest(sums)),
                                     (None, None, 0))
                elif fewest_letters(sums) <= longest:
                    fewest = len(ways[0])
                    self.assertEqual(fewest_letters(sums), fewest)
                    self.assertEqual(how_many_fewest(sums), [len(way) for way in ways].count(fewest))
                    self.check_way(sums)
                else:
                    self.assertEqual(ways, [])

    def check_way(self, sums):
        told = way_with(sums)
        self.assertIs(is_way(told), True)
        self.assertTrue(set(told) <= set(house.LETTERS[:len(sums)]))
        self.assertEqual(sums_by_places(told, len(sums)), tuple(sums))
        self.assertIs(is_way_with(sums, told), True)

    def test_all_near_ways(self):
        for many in (2, 3, 4):
            found = by_sums(many)
            for sums in list(found)[::7]:
                fewest = (sum(map(abs, sums)) + 1) // 2
                self.assertEqual(fewest_letters(sums), fewest)
                self.assertEqual(how_many_fewest(sums), len([way for way in found[sums]
                                                             if len(way) == fewest]))
                for way in house.ways(many, 5):
                    self.assertIs(is_way_with(sums, way), way in found[sums])
                self.check_way(sums)

    def test_great_sums(self):
        great = [(40, -39), (-40, 41), (40, -40, 40, -40, 40, -40, 40, -39), (39, -38), (-39, 40),
                 (40, 40, 40, 40, -40, -40, -40, -39), (1, 0, 0, 0, 0, 0, 0, 0), (0,) * 7 + (1,),
                 (-1, 2), (2, -1), (-39, 40, 0, 0, 0), (37, -18, -18), (0, 0, 0, -39, 40, 40, -40),
                 (41, -40), (-60, 61)]
        for sums in great:
            for order in (sums, sums[::-1]):
                self.check_way(order)
                self.assertEqual(fewest_letters(order), (sum(map(abs, order)) + 1) // 2)
                adding = [abs(number) // 2 for number in order if number > 0]
                taking = [abs(number) // 2 for number in order if number < 0]
                many = 1
                for halves in (adding, taking):
                    many *= math.factorial(sum(halves))
                    for half in halves:
                        many //= math.factorial(half)
                self.assertEqual(how_many_fewest(order), many)
        self.assertGreater(how_many_fewest((40, 40, 40, 40, -40, -40, -40, -39)), FAR)

    def test_no_ways(self):
        for sums in ((0, 0), (1, 1), (2, 1), (1, 1, -1), (3, 3, -5), (2, 2, -3, 1, -1), (40,) * 8, (2, 0),
                     (1, -1), (-1, 0), (1, 1, 1, -2), (0,) * 8, (FAR, FAR), (FAR, -FAR), (5, 3, -7, 0),
                     (39, -37, -1), (1, 2), (-1, -1, 3)):
            self.assertIsNone(fewest_letters(sums))
            for thing in house.ways(2, 4):
                self.assertIs(is_way_with(sums, thing), False)
            if max(map(abs, sums)) <= 40:
                self.assertEqual((way_with(sums), how_many_fewest(sums)), (None, 0))

    def test_far(self):
        self.assertEqual(fewest_letters((FAR, 1 - FAR)), FAR)
        self.assertEqual(fewest_letters((FAR,) * 4 + (-FAR,) * 3 + (1 - FAR,)), 4 * FAR)
        self.assertEqual(fewest_letters((1 - FAR, 0, FAR)), FAR)
        self.assertIsNone(fewest_letters((FAR + 1, 1 - FAR, -1)))
        self.assertIs(is_way_with((FAR, 1 - FAR), "ab" * 100), False)

    def test_letters_of_the_sums(self):
        self.assertIs(is_way_with((0, 1), "b"), True)
        self.assertIs(is_way_with((0, 0, 1), "c"), True)
        self.assertIs(is_way_with((0, 1), "c"), False)
        # c stands as often at one sign as at the other.
        self.assertEqual(sums_by_places("cbacab", 3)[:2] + (0,), sums_by_places("cbacab", 3))
        self.assertIs(is_way_with(sums_by_places("cbacab", 3), "cbacab"), True)
        self.assertIs(is_way_with(sums_by_places("cbacab", 3)[:2], "cbacab"), False)
        self.assertIs(is_way_with(sums_by_places("ab" * 5000, 2), "ab" * 5000), True)
        self.assertIs(is_way_with(sums_by_places("ab" * 5000, 2), "ba" * 5000), False)

    def test_near_things(self):
        for sums in ((0, 1), (2, -1), (1, 1), (3, -4, 2), (1, 0)):
            known = house.ways(3, 5)
            for thing in house.ODD + house.NESTED + ["", "aa", "abb", ["b"], ("b",), "b ", b"b", "B", 1]:
                if not isinstance(thing, str) or thing not in known:
                    self.assertIs(is_way_with(sums, thing), False, thing)
            for way in known:
                self.assertIs(is_way_with(sums, listed((way,))), False)
                self.assertIs(is_way_with(sums, (way,)), False)


if __name__ == "__main__":
    unittest.main()
