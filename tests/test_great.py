"""That each function of halls, makers, rooms and counts is fast at its greatest inputs."""

import time
import unittest

from mirrordoors import counts, halls, makers, rooms
from tests import house, points
from tests.test_counts import LONGEST, great_whole

LONG = [house.made_row(seed, 200, many) for seed in range(3) for many in (2, 3, 8)]
HUNDRED = [house.made_row(seed, 100, 8) for seed in range(2)]
GREAT = points.mixed(3, 400, "abcdefgh")
SIX = points.hall_of(6, dict(zip(house.LETTERS, [
    house.exchanged(6, sheet) for sheet in points.every_sheet(6)[3::9]])))
DEEP = ((("a", ("b", "c")), ("d", ("e", "f"))), (("g", ("h", "a")), ("b", ("c", "d"))))
TWELVE = [
    tuple(house.made_row(seed, 200, 3) for seed in range(12)),
    tuple(("ab" * 100)[:200 - 7 * k] for k in range(12)),
    # Each of the long ones is folded letter by letter.
    ("a", "b") + tuple(("ab" * 100)[:199 - k] for k in range(10)),
    ("ab", "ba", "ac", "ca") + tuple(house.made_row(seed, 200, 3) for seed in range(8)),
]
SIZES = (1,) + (3,) * 58 + (25,)


def greatest_calls():
    yield halls.is_sheet, (400, GREAT[1][0][1])
    yield halls.is_hall, (GREAT,)
    yield halls.hall_letters, (GREAT,)
    yield halls.row_to, (points.ring(400), 0, 200)
    yield halls.seen_sheet, (GREAT[1][0][1], GREAT[1][1][1])
    yield halls.sheet_shown, (GREAT, DEEP)
    yield halls.parting_hall, HUNDRED
    yield halls.is_parting_hall, (*HUNDRED, halls.parting_hall(*HUNDRED))
    yield halls.all_sheets, (SIX,)
    yield halls.how_many_show, (SIX, ((0, 1), (2, 3)), 60)
    yield halls.shortest_way, (SIX, ((0, 1), (2, 3)))
    yield makers.doors_of, (tuple(house.LETTERS), 5)
    yield rooms.rooms_left, (("ab" * 100, "ba" * 100), 2)
    yield counts.how_many_whole, (8, 400)
    yield counts.how_many_with, (8, SIZES)
    yield counts.set_with, (8, SIZES)
    yield counts.how_many_with, (8, (0,) * 59 + (200,))
    yield counts.set_with, (8, (0,) * 59 + (200,))


def calls_of_ways():
    for way in LONG:
        yield halls.point_after, (GREAT, way, 7)
        yield halls.sheet_of, (GREAT, way)
        yield halls.alike_in, (GREAT, way, LONG[0])
        yield rooms.share, (way, 8)
        yield counts.number_of_way, (8, way)
    for ways in TWELVE:
        for function in (makers.makers, makers.are_makers, makers.needless, makers.are_free):
            yield function, (ways,)
        for function in (makers.within, makers.same_family, makers.together):
            yield function, (ways, TWELVE[2])
            yield function, (TWELVE[2], ways)
        yield makers.doors_of, (ways, 5)
        yield makers.how_many_of, (ways, 60)
        for function in (rooms.shares, rooms.is_whole, rooms.rooms_left, rooms.how_many_rooms):
            yield function, (ways, 8)
        yield rooms.how_many_left, (ways, 8, 200)
        yield rooms.left_at, (ways, 8, 200, rooms.how_many_left(ways, 8, 200) - 1)
        for row in LONG[:3]:
            for function in (makers.is_of, makers.folded, makers.chain_to, rooms.is_left,
                             rooms.room_folded, rooms.steps_out):
                yield function, (ways, row)
            for function in (rooms.same_rest, rooms.turns_to, rooms.doors_between):
                yield function, (ways, row, LONG[3])


def calls_of_numbers():
    for many in range(2, 9):
        yield counts.way_at, (many, 200, counts.how_many_ways(many, 200) - 1)
        for number in (0, counts.how_many_whole(many, 20) // 2, counts.how_many_whole(many, 20) - 1):
            yield counts.whole_at, (many, 20, number)
        rooms_there = 399 if many == 2 else 998 // (many - 2)
        yield counts.number_of_whole, (many, great_whole(many, min(rooms_there, 998), 1))
        total = counts.how_many_sets(many, LONGEST[many])
        for number in (0, total // 2, total - 1):
            yield counts.set_at, (many, LONGEST[many], number)
        longest = tuple(way for way in house.ways(many, LONGEST[many]) if len(way) == LONGEST[many])
        yield counts.number_of_set, (many, LONGEST[many], longest)


class GreatTest(unittest.TestCase):
    def test_each_within_a_few_seconds(self):
        for calls in (greatest_calls(), calls_of_ways(), calls_of_numbers()):
            for function, values in calls:
                start = time.perf_counter()
                told = function(*values)
                self.assertLess(time.perf_counter() - start, 3, function.__name__)
                self.assertEqual(function(*values), told)


if __name__ == "__main__":
    unittest.main()
