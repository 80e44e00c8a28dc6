import itertools
import unittest

from mirrordoors.between import (
    can_become, doors_from, is_between, is_looks_within, led_within, looks_within, middle,
    mirror_between, pace)
from mirrordoors.looks import seen_along, seen_in
from mirrordoors.makers import folded, makers
from tests import family, house
from tests.calls import check_calls, check_form, check_lists, check_sets

PAIRS = list(itertools.product(house.ways(3, 3), repeat=2)) + list(
    itertools.product(house.ways(2, 6), repeat=2)) + list(
    itertools.product(house.ways(3, 5)[::7], house.ways(3, 5)[::5]))
LONG = [house.made_row(seed, 200 - 3 * seed, 2 + seed % 4) for seed in range(6)]
LONG += ["ab" * 100, "ba" * 100, ("ab" * 100)[:199], "abc" * 66]
SETS = [(), ("a",), ("a", "b"), ("ab", "b"), ("ab", "c"), ("aba", "b"), ("abc", "a"), ("a", "b", "c"),
        ("ac", "ba"), ("b", "aba", "ab"), ("ab", "ac", "b"), ("bca", "bcb")]
TWELVE = [
    tuple(("ab" * 100)[:200 - 7 * k] for k in range(12)),
    tuple(house.made_row(k, 200, 8) for k in range(12)),
    ("a", "b") + tuple(("ab" * 100)[:199 - 3 * k] for k in range(10)),
    ("abc", "bca", "cab") + tuple(house.made_row(k, 200, 3) for k in range(9)),
]


def doors_by_search(one, other):
    """Of the ways between the rooms of both doors the one on which both doors are."""
    if one == other:
        return (one,)
    for start, end in itertools.product((one[:-1], one), (other[:-1], other)):
        rooms = house.rooms_on(start, end)
        doors = [house.door_between(*pair) for pair in zip(rooms, rooms[1:])]
        if one in doors and other in doors:
            return tuple(doors)
    raise AssertionError((one, other))


class CallsTest(unittest.TestCase):
    CALLS = [
        (mirror_between, {"one": "a", "other": "bcba"}, "bc"),
        (is_between, {"one": "a", "other": "aba", "thing": "ab"}, True),
        (doors_from, {"one": "aba", "other": "b"}, ("aba", "ab", "a", "b")),
        (can_become, {"one": "a", "other": "bca"}, True),
        (middle, {"one": "ab", "other": "b"}, ("door", "a")),
        (pace, {"one": "aba", "other": "b"}, 6),
        (looks_within, {"ways": ("a", "b"), "one": "c", "other": "abc"}, ("b", "a")),
        (is_looks_within, {"ways": ("a", "b"), "one": "c", "other": "abc", "thing": ("b", "a")}, True),
        (led_within, {"ways": ("a", "b"), "one": "c", "other": "abc"}, True),
    ]

    def test_by_names(self):
        check_calls(self, self.CALLS)

    def test_sets_and_lists(self):
        check_sets(self, self.CALLS, ("ways",))
        check_lists(self, self.CALLS)
        for ways in SETS:
            call = (looks_within, {"ways": ways, "one": "ca", "other": "ba"},
                    looks_within(ways, "ca", "ba"))
            check_sets(self, [call], ("ways",))
            check_form(self, call, {**call[1], "ways": list(ways) + [seen_in(x, y) for x in ways
                                                                    for y in ways]})


class MirrorTest(unittest.TestCase):
    def test_all_near_mirrors(self):
        """All WAYs of few letters, tried one after another."""
        # A mirror between is a door on the way, so it has no more letters than both.
        for many, longest, tried in ((3, 3, 5), (2, 5, 8), (4, 2, 4)):
            ways = house.ways(many, longest)
            for one, other in itertools.product(ways, repeat=2):
                found = [way for way in house.ways(many, tried) if family.seen(one, way) == other]
                self.assertLessEqual(len(found), 1)
                told = mirror_between(one, other)
                self.assertEqual([told] if told else [], found, (one, other))
                for way in house.ways(many, longest):
                    self.assertIs(is_between(one, other, way), [way] == found)
                self.assertIs(is_between(one, other, None), False)
                self.assertIs(is_between(one, other, told), told is not None)

    def test_palindromes(self):
        for one, other in PAIRS + list(itertools.product(LONG, repeat=2)):
            doors = doors_by_search(one, other)
            letters = "".join(door[-1] for door in doors)
            there = letters == letters[::-1]
            told = mirror_between(one, other)
            self.assertEqual(told, doors[len(doors) // 2] if there else None)
            if there:
                self.assertEqual(house.seen_by_walking(one, told), other)
                self.assertEqual(house.seen_by_walking(other, told), one)

    def test_long_mirrors(self):
        for one, way in itertools.product(LONG, repeat=2):
            other = house.seen_by_walking(one, way)
            self.assertEqual(mirror_between(one, other), way)
            self.assertEqual(mirror_between(other, one), way)
            self.assertIs(is_between(one, other, way), True)
            self.assertIs(is_between(one, other, way[:-1]), False)

    def test_same_door(self):
        for way in house.ways(3, 4) + LONG:
            self.assertEqual(mirror_between(way, way), way)
            self.assertIs(is_between(way, way, way), True)

    def test_near_things(self):
        for thing in house.ODD + house.NESTED + ["aa", "", ["ab"], ("ab",), "ab ", "abb", "AB", b"ab"]:
            if thing != "a":
                for one, other in (("a", "aba"), ("a", "b"), ("a", "bcba"), ("ab", "ab")):
                    self.assertIs(is_between(one, other, thing), False, thing)
        self.assertIs(is_between("a", "aba", "ab" * 5000), False)
        far = ("ab" * 5000)[:9999]
        self.assertIs(is_between("a", seen_in("a", far), far), True)


class DoorsTest(unittest.TestCase):
    def test_doors_from(self):
        for one, other in PAIRS + list(itertools.product(LONG, repeat=2)):
            told = doors_from(one, other)
            self.assertEqual(told, doors_by_search(one, other))
            self.assertIs(type(told), tuple)
            self.assertEqual((told[0], told[-1]), (one, other))
            self.assertEqual(doors_from(other, one), told[::-1])

    def test_edges(self):
        self.assertEqual(doors_from("a", "a"), ("a",))
        self.assertEqual(doors_from("a", "ab"), ("a", "ab"))
        self.assertEqual(doors_from("ab", "a"), ("ab", "a"))
        self.assertEqual(doors_from("a", "h"), ("a", "h"))
        self.assertEqual(len(doors_from("ab" * 100, "ba" * 100)), 400)

    def test_can_become(self):
        """Doors that are seen in letters, from one on, as far as few letters lead."""
        for one in house.ways(3, 2):
            known, here = {one}, {one}
            while here:
                here = {family.seen(way, other) for way in here for other in house.ways(3, 2)}
                here = {way for way in here if len(way) <= 5} - known
                known |= here
            for other in house.ways(3, 5):
                self.assertIs(can_become(one, other), other in known, (one, other))
        for one, other in itertools.product(LONG, repeat=2):
            self.assertIs(can_become(one, other), one[-1] == other[-1])

    def test_pace(self):
        """All rooms of few letters, each led to where it comes."""
        for many, longest, rooms in ((3, 2, 4), (2, 4, 7)):
            for one, other in itertools.product(house.ways(many, longest), repeat=2):
                far = [len(house.rooms_on(room, house.led_by_walking(room, (one, other)))) - 1
                       for room in house.rows(many, rooms)]
                self.assertEqual(pace(one, other), min(far), (one, other))

    def test_pace_by_doors(self):
        for one, other in PAIRS + list(itertools.product(LONG, repeat=2)):
            self.assertEqual(pace(one, other), 2 * len(doors_by_search(one, other)) - 2)
        self.assertEqual([pace(way, way) for way in LONG], [0] * len(LONG))


class MiddleTest(unittest.TestCase):
    def test_all_near_rooms(self):
        rows = house.rows(3, 4) + LONG + house.rows(2, 7)
        for one, other in itertools.product(rows, repeat=2):
            rooms = house.rooms_on(one, other)
            half = len(rooms) // 2
            if len(rooms) % 2 == 1:
                there = ("room", rooms[half])
            else:
                there = ("door", house.door_between(rooms[half - 1], rooms[half]))
            told = middle(one, other)
            self.assertEqual(told, there, (one, other))
            self.assertIs(type(told), tuple)

    def test_edges(self):
        self.assertEqual(middle("", ""), ("room", ""))
        self.assertEqual(middle("ab" * 100, "ab" * 100), ("room", "ab" * 100))
        self.assertEqual(middle("ab" * 100, ""), ("room", "ab" * 50))
        self.assertEqual(middle("", ("ab" * 100)[:199]), ("door", "ab" * 50))
        self.assertEqual(middle("ab" * 100, "ba" * 100), ("room", ""))


class WithinTest(unittest.TestCase):
    def shortest(self, made, one, other, longest):
        """The tuples of fewest makers that lead from one to other, all tried."""
        for length in range(longest + 1):
            found = [chain for chain in itertools.product(made, repeat=length)
                     if self.seen_along(one, chain) == other]
            if found:
                return found
        return []

    def seen_along(self, way, chain):
        for other in chain:
            way = family.seen(way, other)
        return way

    def test_all_near_looks(self):
        for ways in SETS:
            made = family.makers(ways)
            for one, other in itertools.product(house.ways(3, 2) + ["aba", "bab", "abc"], repeat=2):
                told = looks_within(ways, one, other)
                found = self.shortest(made, one, other, 5 if len(made) < 3 else 4)
                # No WAY here needs more turns.
                self.assertEqual(found, [] if told is None else [told], (ways, one, other))
                self.assertIs(led_within(ways, one, other), told is not None)
                if told is not None:
                    self.assertIs(type(told), tuple)
                    self.assertIs(is_looks_within(ways, one, other, told), True)

    def test_no_other_doors_lead_there(self):
        for ways in SETS:
            doors = sorted(family.doors(ways, 4)) if ways else []
            for one in house.ways(3, 2):
                known, here = {one}, {one}
                while here:
                    here = {family.seen(way, door) for way in here for door in doors}
                    here = {way for way in here if len(way) <= 4} - known
                    known |= here
                for other in house.ways(3, 2):
                    self.assertIs(led_within(ways, one, other), other in known, (ways, one, other))

    def test_same_rest(self):
        for ways in SETS + TWELVE:
            for one, other in PAIRS[::23] + list(itertools.product(LONG[::3], repeat=2)):
                there = folded(ways, one)[0] == folded(ways, other)[0]
                self.assertIs(led_within(ways, one, other), there)

    def test_great_looks(self):
        for ways in TWELVE:
            made = makers(ways)
            for seed, one in enumerate(LONG):
                turns = [made[(seed * k + k * k + seed) % len(made)] for k in range(9)]
                turns = [way for k, way in enumerate(turns) if k == 0 or way != turns[k - 1]]
                other = seen_along(one, turns)
                told = looks_within(ways, one, other)
                self.assertEqual(seen_along(one, told), other)
                self.assertIs(is_looks_within(ways, one, other, tuple(turns)), True)
                self.assertTrue(set(told) <= set(made))
                self.assertLessEqual(len(told), len(turns))
                self.assertFalse(any(x == y for x, y in zip(told, told[1:])))
                self.assertEqual(looks_within(ways, other, one), told[::-1])

    def test_free_makers(self):
        """If one is left as it is by no maker but itself, just these turns lead to other."""
        made = ("ab", "ac", "b", "c")
        for turns in itertools.product(made, repeat=4):
            if all(x != y for x, y in zip(turns, turns[1:])):
                self.assertEqual(looks_within(made, "ad", seen_along("ad", turns)), turns)
                if turns[0] != "b":
                    self.assertEqual(looks_within(made, "b", seen_along("b", turns)), turns)
                else:
                    self.assertEqual(looks_within(made, "b", seen_along("b", turns)), turns[1:])

    def test_edges(self):
        for way in house.ways(3, 3) + LONG:
            for ways in SETS + TWELVE:
                self.assertEqual(looks_within(ways, way, way), ())
                self.assertIs(is_looks_within(ways, way, way, ()), True)
        for one, other in PAIRS:
            if one != other:
                self.assertIsNone(looks_within((), one, other))
                self.assertIs(led_within((), one, other), False)
                self.assertIs(is_looks_within((), one, other, ()), False)

    def test_near_things(self):
        near = [
            ["b", "a"], ("b", ["a"]), (["b"], "a"), ("b", ("a",)), ("b",), ("a", "b"), ("b", "a", "c"),
            ("b", "a", "b"), ("ab", "a"), ("b", "ba"), ("b", "a", None), ("b", "a", ""), ("b", "a", 0),
            "ba", ("ba",), ("b", True), (("b", "a"),), ("b", "aa"), ("b ", "a"), ("c", "c", "b", "a"),
            ("b", "a", "h", "h"), {"b": "a"},
        ]
        for thing in near + house.ODD + [("a", "b"), ("a",)]:
            self.assertIs(is_looks_within(("a", "b"), "c", "abc", thing), False, thing)
        for thing in (("b", "a"), ("a", "a", "b", "a"), ("b", "b", "b", "a"), ("b", "a") * 1 + ("b", "b"),
                      ("b", "a") + ("a", "a") * 3000):
            self.assertIs(is_looks_within(("a", "b"), "c", "abc", thing), True)
            self.assertIs(is_looks_within(["b", "aba", "ab"], "c", "abc", thing), True)
        # a, seen in itself, is a.
        self.assertIs(is_looks_within(("a", "b"), "a", "a", ("a",)), True)
        self.assertIs(is_looks_within(("a", "b"), "a", "ba", ("a", "b")), True)
        self.assertIs(is_looks_within(("a", "b"), "a", "ba", ("b", "a")), False)
        far = ("a", "b") * 300
        self.assertIs(is_looks_within(("a", "b"), "c", seen_along("c", far), far), True)

    def test_all_near_things(self):
        made = ("ab", "b")
        for one, other in (("a", "b"), ("ab", "bab"), ("b", "aba"), ("b", "b"), ("c", "abac")):
            for length in range(5):
                for thing in itertools.product(("ab", "b", "a"), repeat=length):
                    there = "a" not in thing and self.seen_along(one, thing) == other
                    self.assertIs(is_looks_within(made, one, other, thing), there)


if __name__ == "__main__":
    unittest.main()
