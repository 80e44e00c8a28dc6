import itertools
import math
import unittest

from mirrordoors.counts import (
    how_many_sets, how_many_ways, how_many_whole, how_many_with, number_of_set, number_of_way,
    number_of_whole, set_at, set_with, way_at, whole_at)
from mirrordoors.errors import Endless, NoNumber, NoWay
from mirrordoors.makers import are_makers
from mirrordoors.rooms import how_many_rooms, is_whole, shares
from tests import family, house
from tests.calls import check_calls, check_sets

# For each number of letters the greatest longest that [9] allows.
LONGEST = {2: 9, 3: 6, 4: 4, 5: 4, 6: 3, 7: 3, 8: 3}
LONG = [(many, house.made_row(seed, length, many))
        for seed in range(3) for many in (2, 3, 8) for length in (59, 60, 199, 200)]


def product_to(number):
    return math.prod(range(1, number + 1))


def all_rooms_left(many, rooms):
    """All sets of so many rooms with "" that have, with each room, all on the way to it."""
    here = {("",)}
    for _ in range(rooms - 1):
        here = {tuple(sorted(told + (room + letter,)))
                for told in here for room in told for letter in house.LETTERS[:many]
                if not room.endswith(letter) and room + letter not in told}
    return here


def barred(rooms, many):
    """The doors that lead out of these rooms."""
    return tuple(sorted(room + letter for room in rooms for letter in house.LETTERS[:many]
                        if not room.endswith(letter) and room + letter not in rooms))


def all_sets(many, longest):
    """All sets of WAYs with at most so many letters none of which begins another one."""
    found = [()]
    for way in house.ways(many, longest):
        found += [told + (way,) for told in found if not any(way.startswith(one) for one in told)]
    return sorted(tuple(sorted(told)) for told in found)


def sizes_of(ways):
    longest = max(map(len, ways), default=0)
    return tuple(sum(len(way) == length for way in ways) for length in range(1, longest + 1))


def great_whole(many, rooms, seed):
    """The makers of a whole family that leaves so many rooms."""
    stems, here = [""], [""]
    while len(stems) < rooms:
        base = here[(seed * len(stems) + seed) % len(here)]
        further = [base + letter for letter in house.LETTERS[:many]
                   if not base.endswith(letter) and base + letter not in stems and len(base) < 199]
        if further:
            stems.append(further[seed % len(further)])
            here.append(stems[-1])
        else:
            here.remove(base)
    return barred(set(stems), many)


class ExamplesTest(unittest.TestCase):
    def test_ways(self):
        self.assertEqual(
            (how_many_ways(3, 1), how_many_ways(3, 3), how_many_ways(2, 200),
             [way_at(3, 2, number) for number in range(6)], number_of_way(3, "cab"),
             number_of_way(8, way_at(8, 60, 10 ** 40)) == 10 ** 40),
            (3, 12, 2, ['ab', 'ac', 'ba', 'bc', 'ca', 'cb'], 8, True))

    def test_whole(self):
        self.assertEqual(
            ([how_many_whole(3, rooms) for rooms in (1, 2, 3, 4)], how_many_whole(2, 400),
             how_many_whole(8, 2), how_many_whole(8, 20) > 10 ** 20, whole_at(4, 1, 0)),
            ([1, 3, 9, 28], 400, 8, True, ('a', 'b', 'c', 'd')))
        self.assertEqual(
            (len(whole_at(3, 4, 17)), number_of_whole(3, whole_at(3, 4, 17)),
             len(set([whole_at(3, 3, number) for number in range(9)])),
             sorted([number_of_whole(2, ways) for ways in (("a", "ba"), ("ab", "b"))])),
            (6, 17, 9, [0, 1]))

    def test_sets(self):
        self.assertEqual(
            ([how_many_sets(3, longest) for longest in (0, 1, 2)], how_many_sets(2, 9), set_at(5, 0, 0),
             sorted([set_at(2, 1, number) for number in range(4)]),
             number_of_set(8, 3, set_at(8, 3, 10 ** 40)) == 10 ** 40),
            ([1, 8, 125], 100, (), [(), ('a',), ('a', 'b'), ('b',)], True))

    def test_sizes(self):
        self.assertEqual(
            (how_many_with(3, (1, 2)), how_many_with(3, ()), how_many_with(3, (3, 1)),
             how_many_with(3, (0, 6)), set_with(3, (3,)), set_with(3, (3, 1)), set_with(2, (0, 0, 2))),
            (18, 1, 0, 1, ('a', 'b', 'c'), None, ('aba', 'bab')))

    def test_errors(self):
        with self.assertRaises(NoNumber) as told:
            way_at(2, 5, 2)
        self.assertEqual(vars(told.exception), {"number": 2})
        with self.assertRaises(Endless) as told:
            number_of_whole(3, ("a", "b"))
        self.assertEqual(vars(told.exception), {})
        with self.assertRaises(NoWay) as told:
            number_of_set(3, 1, ("a", "ba", "bc"))
        self.assertEqual(vars(told.exception), {"way": "ba"})


class CallsTest(unittest.TestCase):
    CALLS = [
        (how_many_ways, {"many": 3, "length": 3}, 12),
        (way_at, {"many": 3, "length": 2, "number": 4}, "ca"),
        (number_of_way, {"many": 3, "way": "cab"}, 8),
        (how_many_whole, {"many": 3, "rooms": 4}, 28),
        (whole_at, {"many": 4, "rooms": 1, "number": 0}, ("a", "b", "c", "d")),
        (number_of_whole, {"many": 4, "ways": ("a", "b", "c", "d")}, 0),
        (how_many_sets, {"many": 3, "longest": 2}, 125),
        (set_at, {"many": 5, "longest": 0, "number": 0}, ()),
        (number_of_set, {"many": 2, "longest": 2, "ways": set_at(2, 2, 3)}, 3),
        (how_many_with, {"many": 3, "sizes": (1, 2)}, 18),
        (set_with, {"many": 3, "sizes": (3,)}, ("a", "b", "c")),
    ]

    def test_by_names(self):
        check_calls(self, self.CALLS)
        self.assertEqual(whole_at(many=3, rooms=4, number=17), whole_at(3, 4, 17))
        self.assertEqual(set_at(many=3, longest=2, number=17), set_at(3, 2, 17))
        self.assertEqual(set_with(many=3, sizes=(1, 2)), set_with(3, (1, 2)))

    def test_sets_in_any_form(self):
        for many, ways in ((3, ("a", "ba", "bc", "c")), (2, ("ab", "b")), (4, ("a", "b", "c", "d"))):
            calls = [(number_of_whole, {"many": many, "ways": ways}, number_of_whole(many, ways)),
                     (number_of_set, {"many": many, "longest": 3, "ways": ways},
                      number_of_set(many, 3, ways))]
            check_sets(self, calls, ("ways",))

    def test_lists_for_tuples(self):
        sizes = [0, 2, 3]
        self.assertEqual(how_many_with(3, sizes), how_many_with(3, (0, 2, 3)))
        self.assertEqual(set_with(3, sizes), set_with(3, (0, 2, 3)))
        self.assertEqual(sizes, [0, 2, 3])
        self.assertEqual((how_many_with(3, []), set_with(3, [])), (1, ()))

    def test_kinds(self):
        for told in (whole_at(3, 4, 17), set_at(3, 2, 0), set_at(3, 2, 77), set_with(3, [1, 2]),
                     set_with(8, [0])):
            self.assertIs(type(told), tuple)
            self.assertEqual(told, tuple(sorted(set(told))))


class NumbersTest(unittest.TestCase):
    """That only the numbers below how many there are tell something."""

    def check(self, total, function, *values):
        for number in (total, total + 1, 2 * total + 5, 10 ** 700, -1, -total, -total - 1, -10 ** 40):
            with self.assertRaises(NoNumber) as told:
                function(*values, number)
            self.assertEqual(vars(told.exception), {"number": number})
        for number in {0, total - 1}:
            self.assertIsNotNone(function(*values, number))

    def test_ways(self):
        for many in range(2, 9):
            for length in (1, 2, 3, 60, 200):
                self.check(how_many_ways(many, length), way_at, many, length)

    def test_whole(self):
        for many in range(2, 9):
            for rooms in (1, 2, 3, 19, 20):
                self.check(how_many_whole(many, rooms), whole_at, many, rooms)

    def test_sets(self):
        for many in range(2, 9):
            for longest in range(LONGEST[many] + 1):
                self.check(how_many_sets(many, longest), set_at, many, longest)


class WaysTest(unittest.TestCase):
    def test_all_near_ways(self):
        for many in range(2, 6):
            for length in range(1, 6):
                ways = sorted(way for way in house.ways(many, length) if len(way) == length)
                self.assertEqual(how_many_ways(many, length), len(ways))
                self.assertEqual([way_at(many, length, number) for number in range(len(ways))], ways)
                self.assertEqual([number_of_way(many, way) for way in ways], list(range(len(ways))))

    def test_long_ways(self):
        for many, way in LONG:
            number = number_of_way(many, way)
            total = how_many_ways(many, len(way))
            self.assertEqual(total, many * (many - 1) ** (len(way) - 1))
            self.assertEqual(way_at(many, len(way), number), way)
            for other in (number - 10 ** 40, number - 1, number + 1, number + 10 ** 40):
                if 0 <= other < total:
                    beside = way_at(many, len(way), other)
                    self.assertIs(beside < way, other < number)
                    self.assertEqual(number_of_way(many, beside), other)
                    self.assertEqual(len(beside), len(way))
                    self.assertFalse(house.has_neighbours(beside))

    def test_edges(self):
        for many in range(2, 9):
            self.assertEqual("".join(way_at(many, 1, number) for number in range(many)),
                             house.LETTERS[:many])
            for length in (1, 2, 200):
                total = how_many_ways(many, length)
                lowest = ("ab" * 100)[:length]
                highest = (house.LETTERS[many - 1] + house.LETTERS[many - 2]) * 100
                self.assertEqual(way_at(many, length, 0), lowest)
                self.assertEqual(way_at(many, length, total - 1), highest[:length])
                self.assertEqual(number_of_way(many, highest[:length]), total - 1)


class WholeTest(unittest.TestCase):
    def test_all_sets_of_rooms(self):
        for many, rooms in [(2, 7), (3, 6), (4, 5), (5, 4), (8, 3)]:
            for count in range(1, rooms + 1):
                told = {barred(left, many) for left in all_rooms_left(many, count)}
                self.assertEqual(how_many_whole(many, count), len(told))
                numbered = [whole_at(many, count, number) for number in range(len(told))]
                self.assertEqual(set(numbered), told)
                for number, ways in enumerate(numbered):
                    self.assertEqual(number_of_whole(many, ways), number)

    def test_how_many(self):
        for many in range(2, 9):
            for rooms in [*range(1, 21), 60, 399, 400]:
                total = many * product_to((many - 1) * rooms)
                total //= product_to(rooms - 1) * product_to((many - 2) * rooms + 2)
                self.assertEqual(how_many_whole(many, rooms), total)

    def test_twenty_rooms(self):
        for many in range(2, 9):
            for rooms in (1, 7, 20):
                total = how_many_whole(many, rooms)
                for part in range(7):
                    number = (total - 1) * part // 6
                    ways = whole_at(many, rooms, number)
                    self.assertIs(are_makers(ways), True)
                    self.assertEqual(len(ways), (many - 2) * rooms + 2)
                    self.assertIs(is_whole(ways, many), True)
                    self.assertEqual(how_many_rooms(ways, many), rooms)
                    self.assertEqual(number_of_whole(many, ways), number)

    def test_a_thousand_makers(self):
        for many, rooms in ((2, 300), (3, 400), (3, 998), (4, 499), (8, 166)):
            numbers = []
            for seed in range(4):
                ways = great_whole(many, rooms, seed)
                self.assertLessEqual(len(ways), 1000)
                self.assertEqual(len(ways), (many - 2) * rooms + 2)
                numbers.append(number_of_whole(many, ways))
                self.assertEqual(number_of_whole(many, list(ways[::-1])), numbers[-1])
                self.assertIn(numbers[-1], range(how_many_whole(many, rooms)))
            families = {great_whole(many, rooms, seed) for seed in range(4)}
            self.assertEqual(len(set(numbers)), len(families))

    def test_long_makers(self):
        numbers = [number_of_whole(2, (("ab" * 100)[:k], ("ba" * 100)[:201 - k])) for k in range(1, 201)]
        self.assertEqual(sorted(numbers), list(range(200)))
        self.assertIn(number_of_whole(2, ("ab" * 100, "ba" * 100)), range(399))

    def test_endless(self):
        endless = [(many, ways[:-1]) for many, ways in (
            (2, ("a", "b")), (3, ("a", "b", "c")), (8, tuple("abcdefgh")), (3, ("a", "ba", "bc", "c")),
            (3, great_whole(3, 998, 1)), (2, ("ab" * 100, "b")))]
        endless += [(many, ()) for many in range(2, 9)] + [(3, ("a", "b")), (4, ("a", "b", "c"))]
        endless += [(many, (way,)) for many, way in LONG if many > 2]
        for many, ways in endless:
            with self.assertRaises(Endless) as told:
                number_of_whole(many, ways)
            self.assertEqual(vars(told.exception), {})


class SetsTest(unittest.TestCase):
    def test_all_sets(self):
        for many, longest in [(2, 0), (2, 1), (2, 2), (2, 3), (2, 6), (3, 0), (3, 1), (3, 2), (4, 1), (8, 1)]:
            told = all_sets(many, longest)
            self.assertEqual(how_many_sets(many, longest), len(told))
            numbered = [set_at(many, longest, number) for number in range(len(told))]
            self.assertEqual(sorted(numbered), told)
            for number, ways in enumerate(numbered):
                self.assertEqual(number_of_set(many, longest, ways), number)

    def test_how_many(self):
        # Of each door but those of one letter: it is a maker, or those behind it have any sets.
        for many in range(2, 9):
            behind = [1]
            for longest in range(LONGEST[many] + 1):
                self.assertEqual(how_many_sets(many, longest), behind[-1] ** many)
                behind.append(1 + behind[-1] ** (many - 1))

    def test_great_sets(self):
        for many, longest in LONGEST.items():
            total = how_many_sets(many, longest)
            found = []
            for part in range(40):
                number = (total - 1) * part // 39
                ways = set_at(many, longest, number)
                self.assertIs(are_makers(ways), True)
                self.assertLessEqual(max(map(len, ways), default=0), longest)
                self.assertTrue(set("".join(ways)) <= set(house.LETTERS[:many]))
                self.assertEqual(number_of_set(many, longest, ways), number)
                found.append(ways)
            self.assertEqual(len(set(found)), len(found))

    def test_numbers_of_sets(self):
        for many, longest in LONGEST.items():
            every = [way for way in house.ways(many, longest) if len(way) == longest]
            made = [(), tuple("ab"), tuple(every), tuple(every[::3]), tuple(every[:-1])]
            made += [(way,) for way in every[::50]] + [(way[:1],) for way in every[::50]]
            numbers = [number_of_set(many, longest, ways) for ways in made]
            for ways, number in zip(made, numbers):
                self.assertEqual(set_at(many, longest, number), tuple(sorted(ways)))
                self.assertEqual(number_of_set(many, longest, list(ways[::-1]) * 2), number)

    def test_no_way(self):
        for many, longest, ways, way in (
                (3, 1, ("a", "bc", "ba"), "ba"), (3, 0, ("c", "b", "ab"), "ab"), (2, 3, ("abab",), "abab"),
                (8, 2, ("hgf", "a", "gh", "bcd", "bce"), "bcd"), (2, 0, ("a",), "a"),
                (3, 2, ("c", "ab", "b"), None), (3, 1, ("a", "b" + "ab" * 99), "b" + "ab" * 99)):
            if way is None:
                self.assertEqual(set_at(many, longest, number_of_set(many, longest, ways)),
                                 tuple(sorted(ways)))
                continue
            for form in (ways, list(ways[::-1]), ways * 2):
                with self.assertRaises(NoWay) as told:
                    number_of_set(many, longest, form)
                self.assertEqual(vars(told.exception), {"way": way})


class SizesTest(unittest.TestCase):
    def test_all_sizes(self):
        for many, longest, most in ((2, 4, 3), (3, 2, 7)):
            told = [sizes_of(ways) for ways in all_sets(many, longest)]
            for length in range(longest + 1):
                for sizes in itertools.product(range(most), repeat=length):
                    cut = sizes
                    while cut and cut[-1] == 0:
                        cut = cut[:-1]
                    count = told.count(cut)
                    self.assertEqual(how_many_with(many, sizes), count, (many, sizes))
                    self.assertEqual(how_many_with(many, sizes + (0, 0)), count)
                    self.check(many, sizes, count > 0)

    def check(self, many, sizes, there):
        ways = set_with(many, sizes)
        if not there:
            self.assertIsNone(ways)
            return
        self.assertIs(are_makers(ways), True)
        self.assertTrue(set("".join(ways)) <= set(house.LETTERS[:many]))
        for place, size in enumerate(sizes):
            self.assertEqual(sum(len(way) == place + 1 for way in ways), size)
        self.assertEqual(len(ways), sum(sizes))
        self.assertEqual(ways, set_with(many, list(sizes)))

    def test_there_is_one_by_shares(self):
        for many in range(2, 9):
            for seed in range(60):
                sizes = [(seed * (k + 3) + k * k) % (2 + seed % 5) for k in range(seed % 7)]
                ways = [many * (many - 1) ** k for k in range(len(sizes))]
                top = sum(size * ways[-1] // way for size, way in zip(sizes, ways))
                there = not ways or top <= ways[-1]
                self.assertEqual(how_many_with(many, sizes) > 0, there)
                self.check(many, tuple(sizes), there)
                if there and ways:
                    told = set_with(many, sizes)
                    self.assertIs(is_whole(told, many), top == ways[-1])
                    self.assertEqual(shares(told, many) == (1, 1), top == ways[-1])

    def test_whole_ones(self):
        for many in range(2, 9):
            for rooms in range(1, 20):
                for part in range(3):
                    ways = whole_at(many, rooms, (how_many_whole(many, rooms) - 1) * part // 2)
                    sizes = sizes_of(ways)
                    self.check(many, sizes, True)
                    self.assertIs(is_whole(set_with(many, sizes), many), True)
                    self.assertGreater(how_many_with(many, sizes), 0)
                    self.check(many, sizes + (1,), False)
                    self.assertEqual(how_many_with(many, sizes + (0, 1)), 0)

    def test_great_sizes(self):
        last = (0,) * 59 + (200,)
        self.assertEqual(how_many_with(8, last), math.comb(8 * 7 ** 59, 200))
        self.check(8, last, True)
        each = (1,) + (3,) * 58 + (25,)
        free, total = 8, 1
        for size in each:
            total *= math.comb(free, size)
            free = (free - size) * 7
        self.assertEqual(how_many_with(8, each), total)
        self.check(8, each, True)
        self.check(2, (0,) * 59 + (2,), True)
        self.check(2, (0,) * 59 + (3,), False)
        self.check(2, (2,) + (0,) * 59, True)
        self.check(2, (2,) + (0,) * 58 + (1,), False)
        self.check(3, (200,), False)
        self.assertEqual(how_many_with(3, (200,)), 0)
        self.assertEqual(how_many_with(2, (0,) * 60), 1)
        self.check(2, (0,) * 60, True)

    def test_edges(self):
        for many in range(2, 9):
            self.assertEqual((how_many_with(many, ()), set_with(many, ())), (1, ()))
            self.assertEqual((how_many_with(many, (0,)), set_with(many, (0, 0))), (1, ()))
            self.assertEqual(how_many_with(many, (many,)), 1)
            self.assertEqual(set_with(many, (many, 0)), tuple(house.LETTERS[:many]))
            self.assertEqual(how_many_with(many, (many + 1,)), 0)
            self.assertIsNone(set_with(many, (many + 1,)))
            self.assertEqual(how_many_with(many, (many, 0, 0, 1)), 0)
            self.assertIsNone(set_with(many, (many, 0, 0, 1)))


class MakersTest(unittest.TestCase):
    def test_families_are_told_by_makers(self):
        # No two of the sets have the same family: none of them begins another one.
        for ways in all_sets(2, 4) + all_sets(3, 2):
            self.assertEqual(family.makers(ways), ways)


if __name__ == "__main__":
    unittest.main()
