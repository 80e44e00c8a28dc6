"""That each function, from halls on, is fast at its greatest inputs."""

import time
import unittest

from mirrordoors import (
    between, counts, desk, flat, great, halls, hidden, makers, rooms, small, texts)
from mirrordoors.gallery import Gallery
from tests import house, points
from tests.test_counts import LONGEST, great_whole
from tests.test_flat import EVERY
from tests.test_flat import GREAT as FAR_PLACES
from tests.test_great_rows import long_great
from tests.test_small import GREAT as HOUSES
from tests.test_small import line, mixed, ring

LONG = [house.made_row(seed, 200, many) for seed in range(3) for many in (2, 3, 8)]
HUNDRED = [house.made_row(seed, 100, 8) for seed in range(2)]
GREAT = points.mixed(3, 400, "abcdefgh")
SIX = points.hall_of(6, dict(zip(house.LETTERS, [
    house.exchanged(6, sheet) for sheet in points.every_sheet(6)[3::9]])))
DEEP = ((("a", ("b", "c")), ("d", ("e", "f"))), (("g", ("h", "a")), ("b", ("c", "d"))))
TWELVE = [
    tuple(house.made_row(seed, 200, 3) for seed in range(12)),
    tuple(("ab" * 100)[:200 - 7 * k] for k in range(12)),
    # Each of the long ones is folded letter by letter.
    ("a", "b") + tuple(("ab" * 100)[:199 - k] for k in range(10)),
    ("ab", "ba", "ac", "ca") + tuple(house.made_row(seed, 200, 3) for seed in range(8)),
]
SIZES = (1,) + (3,) * 58 + (25,)


def greatest_calls():
    yield halls.is_sheet, (400, GREAT[1][0][1])
    yield halls.is_hall, (GREAT,)
    yield halls.hall_letters, (GREAT,)
    yield halls.row_to, (points.ring(400), 0, 200)
    yield halls.seen_sheet, (GREAT[1][0][1], GREAT[1][1][1])
    yield halls.sheet_shown, (GREAT, DEEP)
    yield halls.parting_hall, HUNDRED
    yield halls.is_parting_hall, (*HUNDRED, halls.parting_hall(*HUNDRED))
    yield halls.all_sheets, (SIX,)
    yield halls.how_many_show, (SIX, ((0, 1), (2, 3)), 60)
    yield halls.shortest_way, (SIX, ((0, 1), (2, 3)))
    yield makers.doors_of, (tuple(house.LETTERS), 5)
    yield rooms.rooms_left, (("ab" * 100, "ba" * 100), 2)
    yield counts.how_many_whole, (8, 400)
    yield counts.how_many_with, (8, SIZES)
    yield counts.set_with, (8, SIZES)
    yield counts.how_many_with, (8, (0,) * 59 + (200,))
    yield counts.set_with, (8, (0,) * 59 + (200,))


def calls_of_ways():
    for way in LONG:
        yield halls.point_after, (GREAT, way, 7)
        yield halls.sheet_of, (GREAT, way)
        yield halls.alike_in, (GREAT, way, LONG[0])
        yield rooms.share, (way, 8)
        yield counts.number_of_way, (8, way)
    for ways in TWELVE:
        for function in (makers.makers, makers.are_makers, makers.needless, makers.are_free):
            yield function, (ways,)
        for function in (makers.within, makers.same_family, makers.together):
            yield function, (ways, TWELVE[2])
            yield function, (TWELVE[2], ways)
        yield makers.doors_of, (ways, 5)
        yield makers.how_many_of, (ways, 60)
        for function in (rooms.shares, rooms.is_whole, rooms.rooms_left, rooms.how_many_rooms):
            yield function, (ways, 8)
        yield rooms.how_many_left, (ways, 8, 200)
        yield rooms.left_at, (ways, 8, 200, rooms.how_many_left(ways, 8, 200) - 1)
        for row in LONG[:3]:
            for function in (makers.is_of, makers.folded, makers.chain_to, rooms.is_left,
                             rooms.room_folded, rooms.steps_out):
                yield function, (ways, row)
            for function in (rooms.same_rest, rooms.turns_to, rooms.doors_between):
                yield function, (ways, row, LONG[3])


def calls_of_numbers():
    for many in range(2, 9):
        yield counts.way_at, (many, 200, counts.how_many_ways(many, 200) - 1)
        for number in (0, counts.how_many_whole(many, 20) // 2, counts.how_many_whole(many, 20) - 1):
            yield counts.whole_at, (many, 20, number)
        rooms_there = 399 if many == 2 else 998 // (many - 2)
        yield counts.number_of_whole, (many, great_whole(many, min(rooms_there, 998), 1))
        total = counts.how_many_sets(many, LONGEST[many])
        for number in (0, total // 2, total - 1):
            yield counts.set_at, (many, LONGEST[many], number)
        longest = tuple(way for way in house.ways(many, LONGEST[many]) if len(way) == LONGEST[many])
        yield counts.number_of_set, (many, LONGEST[many], longest)


def calls_of_doors():
    for one in LONG:
        for other in LONG[:3]:
            for function in (between.mirror_between, between.doors_from, between.can_become,
                             between.middle, between.pace, flat.alike_flat, flat.parting_places):
                yield function, (one, other)
            yield between.is_between, (one, other, one)
            yield flat.alike_round, (one, other, 10 ** 40)
            yield flat.is_parting_places, (one, other, FAR_PLACES)
            for ways in TWELVE:
                yield between.looks_within, (ways, one, other)
                yield between.led_within, (ways, one, other)
                yield between.is_looks_within, (ways, one, other, makers.makers(ways) * 20)
        yield flat.sums_of, (one, 8)
        yield flat.number_shown, (one, FAR_PLACES)
        yield flat.flat_after, (EVERY, one, 10 ** 40)
        yield flat.is_way_with, (flat.sums_of(one, 8), one)
    for sums in ((40, -40) * 3 + (40, -39), (40, 40, 40, 40, -40, -40, -40, -39)):
        for function in (flat.way_with, flat.fewest_letters, flat.how_many_fewest):
            yield function, (sums,)


def calls_of_houses():
    for one in HOUSES:
        for function in (small.is_small, small.in_order, small.least_mirror, small.is_family,
                         small.unlike_starts):
            yield function, (one,)
        yield small.begun_at, (one, len(one) - 1)
        yield small.room_in, (one, LONG[0])
        yield small.is_mirror, (one, LONG[0])
        yield small.how_many_mirrors, (one, 60)
        yield small.laid_onto, (one, one)
        yield small.alike_elsewhere, (one, small.begun_at(one, len(one) - 1))
    yield small.makers_of, (line(40, 8),)
    yield small.small_of, (("ab" * 100, "ba" * 100), 2)
    yield small.both_small, (mixed(1, 12, 8), mixed(2, 12, 8))
    yield small.both_small, (ring(10), ring(12))


def calls_of_greats():
    one, other = long_great(1), long_great(2)
    for function in (great.is_great, great.canonical, great.great_length, great.great_back,
                     great.great_palindrome):
        yield function, (one,)
    for function in (great.great_joined, great.great_common, great.great_begins, great.great_distance,
                     great.great_seen_in):
        yield function, (one, other)
        yield function, (great.great_back(one), one)
        yield function, (one, one)
    yield great.great_letter, (one, great.great_length(one) - 1)
    yield great.great_sums, (one, 8)
    yield great.great_of, (LONG[2],)
    yield great.spelled, (great.great_of(LONG[2]),)


def calls_of_askers():
    for one in TWELVE:
        for other in TWELVE:
            yield hidden.can_be, (one, other)
            yield hidden.parting_door, (one, other)
        yield hidden.what_is_sure, (one, (), LONG[0])
        yield hidden.what_is_sure, (one, ("h", "g" + LONG[0][:150]), LONG[0])
    for many in (2, 3, 8):
        made = set(great_whole(many, 200, 1))
        yield hidden.found_whole, (many, 200, lambda way: way in made)
        yield hidden.found_makers, (many, LONGEST[many], lambda way: False)
        way = house.made_row(1, 200, many)
        yield hidden.found_way, (many, 200, way.startswith)
    yield hidden.found_mirror, (lambda way: house.seen_by_walking(way, LONG[0]),)


def calls_of_texts():
    for ways in TWELVE:
        yield texts.ways_text, (ways,)
        yield texts.ways_read, (texts.ways_text(ways),)
    yield texts.ways_read, (", ".join(sorted(house.ways(4, 7))),)
    yield texts.recipe_text, (DEEP,)
    yield texts.recipe_read, (texts.recipe_text(DEEP),)
    yield texts.recipe_read, ("(" * 20 + "h" + " in a)" * 20,)
    yield texts.hall_text, (GREAT,)
    yield texts.hall_read, (texts.hall_text(GREAT),)
    for one in HOUSES:
        yield texts.small_text, (one,)
        yield texts.small_read, (texts.small_text(one),)
    yield texts.small_read, (texts.small_text(line(2400)),)


def calls_of_galleries():
    hung = [f"hang {way}" for way in TWELVE[0]]
    for line_behind in ("makers", f"chain {LONG[0]}", "rooms 8", f"within {texts.ways_text(TWELVE[2])}",
                        f"look {LONG[1]}", "tidy", "undo", f"has {LONG[2]}"):
        yield desk.answers, ("\n".join(hung + [line_behind] * 48),)
    for ways in TWELVE:
        yield Gallery, (ways,)
        gallery = Gallery(ways)
        yield Gallery.twin, (gallery,)
        for way in LONG[:3]:
            yield Gallery.chain, (gallery, way)
            yield Gallery.__contains__, (gallery, way)


class GreatTest(unittest.TestCase):
    def test_each_within_a_few_seconds(self):
        for calls in (greatest_calls(), calls_of_ways(), calls_of_numbers(), calls_of_doors(),
                      calls_of_houses(), calls_of_greats(), calls_of_askers(), calls_of_texts(),
                      calls_of_galleries()):
            for function, values in calls:
                start = time.perf_counter()
                told = function(*values)
                self.assertLess(time.perf_counter() - start, 3, function.__name__)
                self.assertEqual(function(*values), told)


if __name__ == "__main__":
    unittest.main()
